import PyProof.Rows.All
import Wide.All
import OpenK.AllK
import Wide.FinOn
import HandS.ForMost
import HandS.IsInst
import HandS.Zip
import HandS.ExcInit
import HandS.Lambda
import KE.KExcIs
import KE.KExcInit
import HandS.Style
import HandS.Defaults
import HandS.Dict
import HandS.ClsMeth
import HandS.MakeKwOnly
import HandS.Star
import HandS.FStr
import HandS.OwnEq
import KE.DataEq
import HandS.RaiseMore
import KE.GoesZip
import KE.GoesMore
import HandS.SlotsOwn
import PyProof.InstEq
import PyProof.FactsAll.object_2
import KE.KItemsList
import HandS.DictComp
import HandS.SortRule
import PyProof.Rows.SortKeyStr
import HandS.More
import KE.DataCmp
import PyProof.Rows.StrMeet
import HandS.HotCalls
import HandS.ExcCtx
import HandS.ExcField
import KE.KTryMore
import KE.GoesEnum
import HandS.TupAny
import HandS.EndTab
import KE.KRevSl
import HandS.SuiteRaise
import HandS.RaiseFrom
import HandS.ExcInitHot
import HandS.Strs
import HandS.SetBool
import PyProof.DictTruth
import HandS.Conv
import HandS.TupSets
import HandS.Deep
import PySem.Challenge.RW_oncethrough_k10_sayings_refused
set_option Elab.async false
set_option linter.all false
set_option maxRecDepth 100000
set_option maxHeartbeats 2000000
/-! Data as trees, what denotes them, and a logic of evaluation over data alone. -/
namespace DL
open PySem PySem.Spec PyProof.Rows L2 RZ

inductive D where
  | non
  | bl (b : Bool)
  | int (i : Int)
  | str (x : Str)
  | ty (n : String)
  | obj (a : Addr)
  | lst (ds : List D)
  | tup (ds : List D)
  | ins (C : Addr) (ns : List Str) (ds : List D)
  | dK (fz : Bool) (ks : List Key) (ds : List D)
  | exc (C : Addr) (ns : List Str) (ds : List D)
  | dT (fz : Bool) (ks : List (List Key)) (ds : List D)
  | fn (o : Obj) (c : Addr) (q : Str) (cl : List (Addr × Obj)) (ds : List D)
  /-- a made tuple of ints and texts: a key -/
  | tph (ks : List Key)
  /-- a tuple whose object has no dict of its own -/
  | tpz (ds : List D)

/-- the defaults of a function object stand -/
def DefO (H : Hp) (o : Obj) : Prop := ∀ fd : FuncData, o.data = .func fd → fd.defaults = .none ∨ ∃ T z, fd.defaults = .ref T ∧ H T = some (.tup [.int z])
/-- what the cells of a lambda hold -/
def CelV (cl : List (Addr × Obj)) (vs : List V) : Prop := Paired (fun (p : Addr × Obj) (v : V) => ∃ u, p.2.data = .cell (some u) ∧ RelV v u) cl vs
mutual
inductive Den (K : PySem.W.Frag) (H : Hp) : D → V → Prop
  | non : Den K H .non .non
  | bl (b : Bool) : Den K H (.bl b) (.bl b)
  | int (i : Int) : Den K H (.int i) (.int i)
  | str (x : Str) : Den K H (.str x) (.str x)
  | ty (n : String) : Den K H (.ty n) (.ty n)
  | obj (a : Addr) : Den K H (.obj a) (.ref a)
  | lst {a : Addr} {xs : List V} {ds : List D} : H a = some (.lst xs) → DenAll K H ds xs → Den K H (.lst ds) (.ref a)
  | tup {a : Addr} {xs : List V} {ds : List D} : SqT K H a xs → DenAll K H ds xs → Den K H (.tup ds) (.ref a)
  | ins {a C dx : Addr} {ns : List Str} {vs : List V} {ds : List D} : H a = some (.ins C dx (ns.zip vs)) → ns.length = vs.length → DenAll K H ds vs → Den K H (.ins C ns ds) (.ref a)
  | dK {a : Addr} {ks : List Key} {vs : List V} {ds : List D} : H a = some (.dK (ks.zip vs)) → ks.length = vs.length → DenAll K H ds vs → Den K H (.dK false ks ds) (.ref a)
  | dKz {a : Addr} {ob : Obj} {ks : List Key} {vs : List V} {ds : List D} : H a = some (.frz ob (.dK (ks.zip vs))) → ks.length = vs.length → DenAll K H ds vs → Den K H (.dK true ks ds) (.ref a)
  | dT {a : Addr} {ks : List (List Key)} {vs : List V} {ds : List D} : H a = some (.dT (ks.zip vs)) → ks.length = vs.length → DenAll K H ds vs → Den K H (.dT false ks ds) (.ref a)
  | dTz {a : Addr} {ob : Obj} {ks : List (List Key)} {vs : List V} {ds : List D} : H a = some (.frz ob (.dT (ks.zip vs))) → ks.length = vs.length → DenAll K H ds vs → Den K H (.dT true ks ds) (.ref a)
  | exc {a C dx : Addr} {ns : List Str} {vs : List V} {ds : List D} : H a = some (exo a C (some dx)) → H dx = some (exd dx (ns.zip vs)) → ns.length = vs.length → DenAll K H ds vs → Den K H (.exc C ns ds) (.ref a)
  | tph {a : Addr} {ks : List Key} : H a = some (.tup (ks.map kV)) → Den K H (.tph ks) (.ref a)
  | tpz {a : Addr} {o : Obj} {xs : List V} {ds : List D} : H a = some (.frz o (.tup xs)) → o.cls = .type "tuple" ∧ o.dict = none → DenAll K H ds xs → Den K H (.tpz ds) (.ref a)
  | fn {f c : Addr} {o : Obj} {q : Str} {cl : List (Addr × Obj)} {vs : List V} {ds : List D} : H f = some (.frz o (.ext fun _ => True)) → H c = some (LamX.CodeO c q) → (∀ p, p ∈ cl → H p.1 = some (.frz p.2 (.ext fun _ => True))) → CelV cl vs → DenAll K H ds vs → DefO H o → Den K H (.fn o c q cl ds) (.ref f)
inductive DenAll (K : PySem.W.Frag) (H : Hp) : List D → List V → Prop
  | nil : DenAll K H [] []
  | cons {v : V} {vs : List V} {d : D} {ds : List D} : Den K H d v → DenAll K H ds vs → DenAll K H (d :: ds) (v :: vs)
end

theorem DefO.sub {H H' : Hp} {o : Obj} (d : DefO H o) (e : ∀ a xs, H a = some (.tup xs) → H' a = some (.tup xs)) : DefO H' o := fun fd h => (d fd h).imp id fun ⟨T, z, h1, h2⟩ => ⟨T, z, h1, e _ _ h2⟩
theorem SqL.sub {K : PySem.W.Frag} {H H' : Hp} (e : ∀ a o, H a = some o → H' a = some o) {a : Addr} {xs : List V} (h : SqL K H a xs) : SqL K H' a xs := by
  rcases h with (h | ⟨o, h⟩) | h
  · exact .inl (.inl (e _ _ h))
  · exact .inl (.inr ⟨o, e _ _ h⟩)
  · exact .inr h
theorem SqT.sub {K : PySem.W.Frag} {H H' : Hp} (e : ∀ a o, H a = some o → H' a = some o) {a : Addr} {xs : List V} (h : SqT K H a xs) : SqT K H' a xs := by
  rcases h with (h | ⟨o, h⟩) | h
  · exact .inl (.inl (e _ _ h))
  · exact .inl (.inr ⟨o, e _ _ h⟩)
  · exact .inr h
mutual
theorem Den.sub {K : PySem.W.Frag} {H H' : Hp} (e : ∀ a o, H a = some o → H' a = some o) : ∀ (d : D) (v : V), Den K H d v → Den K H' d v
  | .non, _, h => by cases h; exact .non
  | .bl _, _, h => by cases h; exact .bl _
  | .int _, _, h => by cases h; exact .int _
  | .str _, _, h => by cases h; exact .str _
  | .ty _, _, h => by cases h; exact .ty _
  | .obj _, _, h => by cases h; exact .obj _
  | .lst ds, _, h => by
    cases h with
    | lst h1 h2 => exact .lst (e _ _ h1) (DenAll.sub e ds _ h2)
  | .tup ds, _, h => by
    cases h with
    | tup h1 h2 => exact .tup (SqT.sub e h1) (DenAll.sub e ds _ h2)
  | .ins C ns ds, _, h => by
    cases h with
    | ins h1 h2 h3 => exact .ins (e _ _ h1) h2 (DenAll.sub e ds _ h3)
  | .dK fz ks ds, _, h => by
    cases h with
    | dK h1 h2 h3 => exact .dK (e _ _ h1) h2 (DenAll.sub e ds _ h3)
    | dKz h1 h2 h3 => exact .dKz (e _ _ h1) h2 (DenAll.sub e ds _ h3)
  | .exc C ns ds, _, h => by
    cases h with
    | exc h1 h2 h3 h4 => exact .exc (e _ _ h1) (e _ _ h2) h3 (DenAll.sub e ds _ h4)
  | .dT fz ks ds, _, h => by
    cases h with
    | dT h1 h2 h3 => exact .dT (e _ _ h1) h2 (DenAll.sub e ds _ h3)
    | dTz h1 h2 h3 => exact .dTz (e _ _ h1) h2 (DenAll.sub e ds _ h3)
  | .tph ks, _, h => by
    cases h with
    | tph h1 => exact .tph (e _ _ h1)
  | .tpz ds, _, h => by
    cases h with
    | tpz h1 h2 h3 => exact .tpz (e _ _ h1) h2 (DenAll.sub e ds _ h3)
  | .fn o c q cl ds, _, h => by
    cases h with
    | fn h1 h2 h3 h4 h5 h6 => exact .fn (e _ _ h1) (e _ _ h2) (fun p m => e _ _ (h3 p m)) h4 (DenAll.sub e ds _ h5) (h6.sub fun _ _ z => e _ _ z)
theorem DenAll.sub {K : PySem.W.Frag} {H H' : Hp} (e : ∀ a o, H a = some o → H' a = some o) : ∀ (ds : List D) (vs : List V), DenAll K H ds vs → DenAll K H' ds vs
  | [], _, h => by cases h; exact .nil
  | d :: ds, _, h => by
    cases h with
    | cons h1 h2 => exact .cons (Den.sub e d _ h1) (DenAll.sub e ds _ h2)
end
theorem DenAll.length {K : PySem.W.Frag} {H : Hp} : ∀ {ds : List D} {vs : List V}, DenAll K H ds vs → ds.length = vs.length
  | [], _, h => by cases h; rfl
  | d :: ds, _, h => by
    cases h with
    | cons h1 h2 => rw [List.length_cons, List.length_cons, DenAll.length h2]
theorem DenAll.get {K : PySem.W.Frag} {H : Hp} : ∀ {ds : List D} {vs : List V} {i : Nat} {d : D}, DenAll K H ds vs → ds[i]? = some d → ∃ v, vs[i]? = some v ∧ Den K H d v
  | [], _, _, _, _, e => by simp at e
  | d :: ds, _, 0, _, h, e => by
    cases h with
    | cons h1 h2 =>
      have e' : d = _ := Option.some.inj e
      subst e'
      exact ⟨_, rfl, h1⟩
  | d :: ds, _, i + 1, _, h, e => by
    cases h with
    | cons h1 h2 => exact DenAll.get (i := i) h2 e
theorem DenAll.getV {K : PySem.W.Frag} {H : Hp} : ∀ {ds : List D} {vs : List V} {i : Nat} {v : V}, DenAll K H ds vs → vs[i]? = some v → ∃ d, ds[i]? = some d ∧ Den K H d v
  | [], _, _, _, h, e => by cases h; simp at e
  | d :: ds, _, 0, _, h, e => by
    cases h with
    | cons h1 h2 =>
      have e' := Option.some.inj e
      subst e'
      exact ⟨_, rfl, h1⟩
  | d :: ds, _, i + 1, _, h, e => by
    cases h with
    | cons h1 h2 => exact DenAll.getV (i := i) h2 e
theorem DenAll.snoc {K : PySem.W.Frag} {H : Hp} : ∀ {ds : List D} {vs : List V} {d : D} {v : V}, DenAll K H ds vs → Den K H d v → DenAll K H (ds ++ [d]) (vs ++ [v])
  | [], _, _, _, h, h' => by cases h; exact .cons h' .nil
  | d :: ds, _, _, _, h, h' => by
    cases h with
    | cons h1 h2 => exact .cons h1 (DenAll.snoc h2 h')
theorem DenAll.app {K : PySem.W.Frag} {H : Hp} : ∀ {ds : List D} {vs : List V} {es : List D} {ws : List V}, DenAll K H ds vs → DenAll K H es ws → DenAll K H (ds ++ es) (vs ++ ws)
  | [], _, _, _, h, h' => by cases h; exact h'
  | d :: ds, _, _, _, h, h' => by
    cases h with
    | cons h1 h2 => exact .cons h1 (DenAll.app h2 h')

/-- a dict is at a, with these keys and data, locked or not -/
theorem Den.rdK {K : PySem.W.Frag} {H : Hp} {fz : Bool} {ks : List Key} {ds : List D} {v : V} (h : Den K H (.dK fz ks ds) v) : ∃ (a : Addr) (vs : List V), v = .ref a ∧ Rd H a (.dK (ks.zip vs)) ∧ ks.length = vs.length ∧ DenAll K H ds vs := by
  cases h with
  | dK h1 h2 h3 => exact ⟨_, _, rfl, .inl h1, h2, h3⟩
  | dKz h1 h2 h3 => exact ⟨_, _, rfl, .inr ⟨_, h1⟩, h2, h3⟩
theorem Den.rdT {K : PySem.W.Frag} {H : Hp} {fz : Bool} {ks : List (List Key)} {ds : List D} {v : V} (h : Den K H (.dT fz ks ds) v) : ∃ (a : Addr) (vs : List V), v = .ref a ∧ Rd H a (.dT (ks.zip vs)) ∧ ks.length = vs.length ∧ DenAll K H ds vs := by
  cases h with
  | dT h1 h2 h3 => exact ⟨_, _, rfl, .inl h1, h2, h3⟩
  | dTz h1 h2 h3 => exact ⟨_, _, rfl, .inr ⟨_, h1⟩, h2, h3⟩
/-! ### what is hidden: objects that may still change -/
def hid (M : List Addr) (H : Hp) : Hp := fun a => if a ∈ M then none else H a
theorem hid_get {M : List Addr} {H : Hp} {a : Addr} {o : HO} (h : hid M H a = some o) : a ∉ M ∧ H a = some o := by
  unfold hid at h
  by_cases e : a ∈ M
  · rw [if_pos e] at h; cases h
  · rw [if_neg e] at h; exact ⟨e, h⟩
theorem hid_of {M : List Addr} {H : Hp} {a : Addr} {o : HO} (n : a ∉ M) (h : H a = some o) : hid M H a = some o := by
  unfold hid
  rw [if_neg n]; exact h
theorem hid_sub {M : List Addr} {H : Hp} : ∀ a o, hid M H a = some o → H a = some o := fun _ _ h => (hid_get h).2
theorem Den.un {K : PySem.W.Frag} {M : List Addr} {H : Hp} {d : D} {v : V} (h : Den K (hid M H) d v) : Den K H d v := Den.sub hid_sub d v h

theorem rd_hid {M : List Addr} {H : Hp} {a : Addr} {u : HO} (h : Rd (hid M H) a u) : Rd H a u := by
  rcases h with h | ⟨o, h⟩
  · exact .inl (hid_get h).2
  · exact .inr ⟨o, (hid_get h).2⟩
/-- the box that a law pulls from: its address, that of the list of the script's ints; the table of the law's code objects (b where there is none).
H0, M0: the heap and what was hidden when the def was entered that runs; E: what is wished of an exception that leaves it, PX: which ones may -/
structure Bx where
  b : Addr
  l : Addr
  t : Addr
  q : Str
  H0 : Hp := fun _ => none
  M0 : List Addr := []
  E : XK := fun _ _ _ => True
  PX : Addr → List Str → List D → Prop := fun _ _ _ => False
/-- a is nothing that changes on the way -/
structure Bx.No (B : Bx) (a : Addr) : Prop where
  b : a ≠ B.b
  t : a ≠ B.t
def BoxOk (K : PySem.W.Frag) (B : Bx) (H : Hp) : Prop :=
  ∃ (ns : List Int) (i : Nat) (r m c : Int), H B.b = some (.lst [.ref B.l, .int i, .int r, .int m, .int c]) ∧ B.l ≠ B.b ∧ H B.l = some (.lst (ns.map V.int)) ∧ ns.length ≤ 63 ∧ 0 ≤ r ∧ 0 ≤ m ∧ m < 2147483587
/-- the table of the law's code objects -/
def TbOk (B : Bx) (H : Hp) : Prop := B.t = B.b ∨ LamX.TabS H B.t B.q
/-- nothing but the box, and the table, has changed -/
structure R (K : PySem.W.Frag) (B : Bx) (H H' : Hp) : Prop where
  box : BoxOk K B H'
  two : ∀ a o, H a = some o → B.No a → H' a = some o
  tb : TbOk B H → TbOk B H'
/-- what an exception that leaves the def is wished to be -/
def XkOk (K : PySem.W.Frag) (B : Bx) : Prop := ∀ (H' : Hp) (C dx : Addr) (ns : List Str) (us : List V) (es : List D), BoxOk K B H' → TbOk B H' → (∀ a o, B.H0 a = some o → B.No a → H' a = some o) →
  B.H0 dx = none → H' dx = some (.xd (ns.zip us)) → ns.length = us.length → DenAll K (hid B.M0 H') es us → B.PX C ns es → B.E (.ref C) (some dx) H'
def NoCode (H : Hp) (p : Addr) : Prop := (∀ q, H p ≠ some (LamX.CodeO p q)) ∧ ∀ xs, H p ≠ some (.tup xs)
theorem there_of {H : Hp} {a : Addr} {u : HO} (e : H a = some u) (n : ∀ φ, u ≠ .ext φ) (nt : ∀ xs, u ≠ .tup xs := by intro xs z; cases z) : H a ≠ none ∧ NoCode H a := ⟨by rw [e]; exact fun z => (by cases z), fun q z => (by
  rw [e] at z
  unfold LamX.CodeO at z
  exact n _ (Option.some.inj z)), fun xs z => nt xs (Option.some.inj (e.symm.trans z))⟩
/-- an object that is no code object -/
def NoCo (p : Addr) (o : HO) : Prop := (∀ q, o ≠ LamX.CodeO p q) ∧ ∀ xs, o ≠ .tup xs
theorem NoCode.put {H : Hp} {p : Addr} {o : HO} (n : NoCo p o) : NoCode (upd H p o) p := ⟨fun q z => by rw [upd_same] at z; exact n.1 q (Option.some.inj z), fun q z => by rw [upd_same] at z; exact n.2 q (Option.some.inj z)⟩
structure Good (K : PySem.W.Frag) (B : Bx) (M : List Addr) (H : Hp) : Prop where
  mem : B.b ∈ M
  meml : B.l ∈ M
  memt : B.t ∈ M
  box : BoxOk K B H
  tb : TbOk B H
  there : ∀ a ∈ M, H a ≠ none ∧ NoCode H a
  fr : ∀ a o, B.H0 a = some o → B.No a → H a = some o
  sub : ∀ a, a ∈ B.M0 → a ∈ M
  xk : XkOk K B
section
variable {K : PySem.W.Frag} {B : Bx} {M : List Addr} {H H1 H2 : Hp}
theorem BoxOk.none (x : BoxOk K B H) {a : Addr} (h : H a = .none) : a ≠ B.b ∧ a ≠ B.l := by
  obtain ⟨ns, i, r, m, c, hb, _, hl, _⟩ := x
  exact ⟨fun z => (by rw [z, hb] at h; cases h), fun z => (by rw [z, hl] at h; cases h)⟩
theorem TbOk.none (x : TbOk B H) (y : BoxOk K B H) {a : Addr} (h : H a = .none) : a ≠ B.t := fun z => by
  rcases x with e | ⟨ps, e, _⟩
  · rw [e] at z
    exact (y.none h).1 z
  · rw [z, e] at h; cases h
theorem Good.no (g : Good K B M H) {a : Addr} (h : a ∉ M) : B.No a := ⟨fun z => h (by rw [z]; exact g.mem), fun z => h (by rw [z]; exact g.memt)⟩
/-- an object that is no list and no table -/
theorem Good.noO (g : Good K B M H) {a : Addr} {o : HO} (h : H a = some o) (nl : ∀ xs, o ≠ .lst xs) (nt : ∀ ps, o ≠ .tbl ps) : B.No a := by
  obtain ⟨ns, i, r, m, c, hb, _⟩ := g.box
  refine ⟨fun z => ?_, fun z => ?_⟩
  · rw [z, hb] at h
    exact nl _ (Option.some.inj h).symm
  · rcases g.tb with e | ⟨ps, e, _⟩
    · rw [z, e, hb] at h
      exact nl _ (Option.some.inj h).symm
    · rw [z, e] at h
      exact nt _ (Option.some.inj h).symm
theorem R.refl (h : BoxOk K B H) : R K B H H := ⟨h, fun _ _ e _ => e, id⟩
theorem Good.refl (g : Good K B M H) : R K B H H := R.refl g.box
theorem R.trans (r : R K B H H1) (q : R K B H1 H2) : R K B H H2 := ⟨q.box, fun a o e n => q.two a o (r.two a o e n) n, fun t => q.tb (r.tb t)⟩
theorem Good.r (g : Good K B M H) (r : R K B H H1) : Good K B M H1 := ⟨g.mem, g.meml, g.memt, r.box, r.tb g.tb, fun a ha => (by
  by_cases e : a = B.b
  · subst e
    obtain ⟨_, _, _, _, _, h, _⟩ := r.box
    exact ⟨by rw [h]; exact fun z => (by cases z), fun q z => (by rw [h] at z; unfold LamX.CodeO at z; cases z), fun q z => (by rw [h] at z; cases z)⟩
  · by_cases et : a = B.t
    · subst et
      rcases r.tb g.tb with z | ⟨ps, z, _⟩
      · exact absurd z e
      · exact ⟨by rw [z]; exact fun z => (by cases z), fun q z2 => (by rw [z] at z2; unfold LamX.CodeO at z2; cases z2), fun q z2 => (by rw [z] at z2; cases z2)⟩
    · cases q : H a with
      | none => exact absurd q (g.there a ha).1
      | some o =>
        have q1 := r.two a o q ⟨e, et⟩
        exact ⟨by rw [q1]; exact fun z => (by cases z), fun q2 z => (g.there a ha).2.1 q2 (by rw [q]; rw [q1] at z; exact z), fun q2 z => (g.there a ha).2.2 q2 (by rw [q]; rw [q1] at z; exact z)⟩), fun a o e n => r.two a o (g.fr a o e n) n, g.sub, g.xk⟩
theorem Good.sub' (g : Good K B M H) (r : R K B H H1) : ∀ a o, hid M H a = some o → hid M H1 a = some o := fun a o e => by
  obtain ⟨n, q⟩ := hid_get e
  exact hid_of n (r.two a o q (g.no n))
theorem Good.den (g : Good K B M H) (r : R K B H H1) {d : D} {v : V} (h : Den K (hid M H) d v) : Den K (hid M H1) d v := Den.sub (g.sub' r) d v h
theorem Good.dens (g : Good K B M H) (r : R K B H H1) {ds : List D} {vs : List V} (h : DenAll K (hid M H) ds vs) : DenAll K (hid M H1) ds vs := DenAll.sub (g.sub' r) ds vs h
theorem Good.fresh (g : Good K B M H) {p : Addr} (h : H p = none) : p ∉ M := fun z => (g.there p z).1 h
theorem Good.fresh_b (g : Good K B M H) {p : Addr} (h : H p = none) : B.No p := g.no (g.fresh h)
theorem Good.fresh_l (g : Good K B M H) {p : Addr} (h : H p = none) : p ≠ B.l := fun z => g.fresh h (by rw [z]; exact g.meml)
/-- new now, so new then -/
theorem Good.h0 (g : Good K B M H) {p : Addr} (h : H p = none) : B.H0 p = none := by
  cases e : B.H0 p with
  | none => rfl
  | some o => rw [g.fr p o e (g.fresh_b h)] at h; cases h
theorem BoxOk.sub (x : BoxOk K B H) (e : ∀ a o, H a = some o → H1 a = some o) : BoxOk K B H1 := by
  obtain ⟨ns, i, r, m, c, h, n, hs, q⟩ := x
  exact ⟨ns, i, r, m, c, e _ _ h, n, e _ _ hs, q⟩
theorem TbOk.sub (x : TbOk B H) (e : ∀ a o, H a = some o → H1 a = some o) : TbOk B H1 := x.imp id fun t => t.ext e
theorem codeO_lst {c : Addr} {q : Str} (xs : List V) : LamX.CodeO c q ≠ .lst xs := fun z => by
  unfold LamX.CodeO at z
  cases z
/-- the table stands where all but some objects that are neither it nor code objects stay -/
theorem TbOk.keep (x : TbOk B H) (e : ∀ a o, H a = some o → (a = B.t ∨ ∃ q, o = LamX.CodeO a q) → H1 a = some o) : TbOk B H1 := by
  rcases x with z | ⟨ps, h1, h2, h3⟩
  · exact .inl z
  · refine .inr ⟨ps, e _ _ h1 (.inl rfl), h2, fun pos cv hc => ?_⟩
    obtain ⟨c, e1, e2⟩ := h3 pos cv hc
    exact ⟨c, e1, e _ _ e2 (.inr ⟨_, rfl⟩)⟩
/-- only the box has changed -/
theorem R.ofBox (x : BoxOk K B H1) (h : ∃ xs, H B.b = some (.lst xs)) (e : ∀ a, a ≠ B.b → H1 a = H a) : R K B H H1 := ⟨x, fun a o q n => by rw [e a n.b]; exact q, fun t => by
  rcases t with z | ⟨ps, h1, h2, h3⟩
  · exact .inl z
  · obtain ⟨xs, hb⟩ := h
    have ne : ∀ a o, H a = some o → (∀ xs, o ≠ .lst xs) → a ≠ B.b := fun a o q n z => by
      rw [z, hb] at q
      exact n xs (Option.some.inj q).symm
    refine .inr ⟨ps, by rw [e _ (ne _ _ h1 fun xs z => by cases z)]; exact h1, h2, fun pos cv hc => ?_⟩
    obtain ⟨c, e1, e2⟩ := h3 pos cv hc
    exact ⟨c, e1, by rw [e _ (ne _ _ e2 codeO_lst)]; exact e2⟩⟩
/-- all that stands stays -/
theorem R.ofSub (g : Good K B M H) (e : ∀ a o, H a = some o → H1 a = some o) : R K B H H1 := ⟨g.box.sub e, fun a o q _ => e a o q, fun t => t.sub e⟩
theorem Good.new (g : Good K B M H) {p : Addr} {o : HO} (h : H p = none) : R K B H (upd H p o) :=
  R.ofSub g fun a u q => by rw [upd_ne (ne_of_none q h)]; exact q
/-- an owned object, not the box, is changed -/
theorem BoxOk.put (g : BoxOk K B H) {p : Addr} {o : HO} (hp : p ≠ B.b) (hl : p ≠ B.l) : BoxOk K B (upd H p o) := by
  obtain ⟨ns, i, r, m, c, h, n, hs, q⟩ := g
  exact ⟨ns, i, r, m, c, by rw [upd_ne hp.symm]; exact h, n, by rw [upd_ne hl.symm]; exact hs, q⟩
/-- the object at p is no code object -/
theorem NoCode.none {p : Addr} (h : H p = none) : NoCode H p := ⟨fun q z => (nomatch h.symm.trans z), fun q z => (nomatch h.symm.trans z)⟩
theorem NoCode.of {p : Addr} {o : HO} (h : H p = some o) (n : ∀ φ, o ≠ .ext φ) (nt : ∀ xs, o ≠ .tup xs := by intro xs z; cases z) : NoCode H p := ⟨fun q z => (by
  rw [h] at z
  unfold LamX.CodeO at z
  exact n _ (Option.some.inj z)), fun xs z => nt xs (Option.some.inj (h.symm.trans z))⟩
theorem TbOk.put (x : TbOk B H) {p : Addr} {o : HO} (hp : p ≠ B.t) (nc : NoCode H p) : TbOk B (upd H p o) := x.keep fun a u q k => by
  have na : a ≠ p := fun z => by
    rcases k with k | ⟨q', k⟩
    · exact hp (z.symm.trans k)
    · subst z
      rw [k] at q
      exact nc.1 _ q
  rw [upd_ne na]; exact q
/-- one more owned object -/
theorem Good.own (g : Good K B M H) {p : Addr} {o : HO} (h : H p = none) (nc : NoCo p o := by refine ⟨fun q z => ?_, fun q z => ?_⟩ <;> (try unfold LamX.CodeO at z) <;> cases z) : Good K B (p :: M) (upd H p o) :=
  ⟨List.mem_cons_of_mem _ g.mem, List.mem_cons_of_mem _ g.meml, List.mem_cons_of_mem _ g.memt, (g.new h).1, (g.new h).tb g.tb, fun a ha => by
    rcases List.mem_cons.mp ha with e | ha
    · rw [e]; exact ⟨by rw [upd_same]; exact fun z => (by cases z), NoCode.put nc⟩
    · have na : a ≠ p := fun z => (g.there a ha).1 (by rw [z]; exact h)
      exact ⟨by rw [upd_ne na]; exact (g.there a ha).1, fun q z => (g.there a ha).2.1 q (by rw [upd_ne na] at z; exact z), fun q z => (g.there a ha).2.2 q (by rw [upd_ne na] at z; exact z)⟩, fun a u e n => (g.new h).2 a u (g.fr a u e n) n, fun a ha => List.mem_cons_of_mem _ (g.sub a ha), g.xk⟩
theorem Good.putOwn (g : Good K B M H) {p : Addr} {o : HO} (hp : B.No p) (hl : p ≠ B.l) (nc : NoCode H p) (h0 : B.H0 p = none) (no : NoCo p o := by refine ⟨fun q z => ?_, fun q z => ?_⟩ <;> (try unfold LamX.CodeO at z) <;> cases z) : Good K B M (upd H p o) :=
  ⟨g.mem, g.meml, g.memt, g.box.put hp.b hl, g.tb.put hp.t nc, fun a ha => by
    by_cases e : a = p
    · rw [e]; exact ⟨by rw [upd_same]; exact fun z => (by cases z), NoCode.put no⟩
    · exact ⟨by rw [upd_ne e]; exact (g.there a ha).1, fun q z => (g.there a ha).2.1 q (by rw [upd_ne e] at z; exact z), fun q z => (g.there a ha).2.2 q (by rw [upd_ne e] at z; exact z)⟩, fun a u e n => by
    rw [upd_ne (ne_of_none e h0)]
    exact g.fr a u e n, g.sub, g.xk⟩
/-- an object that was not there at the start is changed -/
theorem R.putNew (r : R K B H H1) {p : Addr} {o : HO} (hn : H p = none) (hp : B.No p) (hl : p ≠ B.l) (nc : NoCode H1 p) : R K B H (upd H1 p o) :=
  ⟨r.box.put hp.b hl, fun a u q n => by rw [upd_ne (ne_of_none q hn)]; exact r.two a u q n, fun t => (r.tb t).put hp.t nc⟩
theorem hid_put {p : Addr} {o : HO} (hp : p ∈ M) : hid M (upd H p o) = hid M H := by
  funext a
  unfold hid
  by_cases e : a ∈ M
  · rw [if_pos e, if_pos e]
  · rw [if_neg e, if_neg e, upd_ne (fun z => e (by rw [z]; exact hp))]
/-- what was denoted ahead of a new owned object -/
theorem hid_own {p : Addr} {o : HO} (h : H p = none) : ∀ a u, hid M H a = some u → hid (p :: M) (upd H p o) a = some u := fun a u e => by
  obtain ⟨n, q⟩ := hid_get e
  have na : a ≠ p := ne_of_none q h
  refine hid_of (fun z => ?_) (by rw [upd_ne na]; exact q)
  rcases List.mem_cons.mp z with z | z
  · exact na z
  · exact n z
theorem hid_less {p : Addr} : ∀ a u, hid (p :: M) H a = some u → hid M H a = some u := fun a u e => by
  obtain ⟨n, q⟩ := hid_get e
  exact hid_of (fun z => n (List.mem_cons_of_mem _ z)) q
end

/-! ### environments over data -/
abbrev Gam := List (Option D)
structure EnvOk (K : PySem.W.Frag) (M : List Addr) (H : Hp) (σ : L2.St) (Γ : Gam) : Prop where
  len : σ.length = Γ.length
  at_ : ∀ (i : Nat) (d : D), Γ[i]? = some (some d) → ∃ v, σ[i]? = some (some v) ∧ Den K (hid M H) d v
section
variable {K : PySem.W.Frag} {B : Bx} {M : List Addr} {H H1 H2 : Hp} {σ : L2.St} {Γ : Gam}
theorem EnvOk.r (x : EnvOk K M H σ Γ) (g : Good K B M H) (r : R K B H H1) : EnvOk K M H1 σ Γ :=
  ⟨x.len, fun i d e => let ⟨v, h1, h2⟩ := x.at_ i d e; ⟨v, h1, g.den r h2⟩⟩
theorem EnvOk.set (x : EnvOk K M H σ Γ) {i : Nat} {d : D} {v : V} (h : Den K (hid M H) d v) : EnvOk K M H (σ.set i (some v)) (Γ.set i (some d)) := by
  refine ⟨by rw [List.length_set, List.length_set]; exact x.len, fun j e q => ?_⟩
  by_cases hj : i = j
  · subst hj
    by_cases hi : i < Γ.length
    · rw [List.getElem?_set_self hi] at q
      have q' : d = e := Option.some.inj (Option.some.inj q)
      subst q'
      exact ⟨v, List.getElem?_set_self (by rw [x.len]; exact hi), h⟩
    · rw [List.getElem?_eq_none (by rw [List.length_set]; omega)] at q; cases q
  · rw [List.getElem?_set_ne hj] at q
    rw [List.getElem?_set_ne hj]
    exact x.at_ j e q
def wipeG (Γ : Gam) : List Nat → Gam
  | [] => Γ
  | v :: vs => (wipeG Γ vs).set v none
theorem EnvOk.wipe (x : EnvOk K M H σ Γ) : ∀ vs : List Nat, EnvOk K M H (L2.wipe σ vs) (wipeG Γ vs)
  | [] => x
  | v :: vs => by
    have ih := EnvOk.wipe x vs
    refine ⟨?_, fun j d q => ?_⟩
    · unfold L2.wipe wipeG
      rw [List.length_set, List.length_set]; exact ih.len
    · unfold wipeG at q
      unfold L2.wipe
      by_cases hj : v = j
      · subst hj
        by_cases hi : v < (wipeG Γ vs).length
        · rw [List.getElem?_set_self hi] at q; cases q
        · rw [List.getElem?_eq_none (by rw [List.length_set]; omega)] at q; cases q
      · rw [List.getElem?_set_ne hj] at q
        rw [List.getElem?_set_ne hj]
        exact ih.at_ j d q
end

/-! ### evaluation -/
section
variable (K : PySem.W.Frag) (B : Bx)
def Ev (te : TE) (Γ : Gam) (P : D → Prop) : Prop := ∀ (M : List Addr) (σ : L2.St) (H : Hp) (Q : VK), Good K B M H → EnvOk K M H σ Γ →
  (∀ v H' d, R K B H H' → P d → Den K (hid M H') d v → Q v H') → te σ H Q
def EvA (ta : TA) (Γ : Gam) (P : List D → Prop) : Prop := ∀ (M : List Addr) (σ : L2.St) (H : Hp) (Q : List V → Hp → Prop), Good K B M H → EnvOk K M H σ Γ →
  (∀ vs H' ds, R K B H H' → P ds → DenAll K (hid M H') ds vs → Q vs H') → ta σ H Q
def EvT (tt : TT) (Γ : Gam) (P : Bool → Prop) : Prop := ∀ (M : List Addr) (σ : L2.St) (H : Hp) (Q : Bool → Hp → Prop), Good K B M H → EnvOk K M H σ Γ →
  (∀ k H', R K B H H' → P k → Q k H') → tt σ H Q
def EvO (to : TO) (Γ : Gam) (P : Option Int → Prop) : Prop := ∀ (M : List Addr) (σ : L2.St) (H : Hp) (Q : Option Int → Hp → Prop), Good K B M H → EnvOk K M H σ Γ →
  (∀ k H', R K B H H' → P k → Q k H') → to σ H Q
end
section
variable {K : PySem.W.Frag} {B : Bx} {Γ : Gam} {te ta tb tc : TE} {P P' : D → Prop}
theorem Ev.mono (h : Ev K B te Γ P) (e : ∀ d, P d → P' d) : Ev K B te Γ P' := fun M σ H Q g x q => h M σ H Q g x fun v H' d r p => q v H' d r (e d p)
theorem ev_var {i : Nat} {d : D} (h : Γ[i]? = some (some d)) (p : P d) : Ev K B (tVar i) Γ P := fun M σ H Q g x q => by
  obtain ⟨v, h1, h2⟩ := x.at_ i d h
  exact ⟨v, h1, q v H d g.refl p h2⟩
theorem ev_int {i : Int} (p : P (.int i)) : Ev K B (tC (.int i)) Γ P := fun M σ H Q g x q => q _ H _ g.refl p (.int i)
theorem ev_str {i : Str} (p : P (.str i)) : Ev K B (tC (.str i)) Γ P := fun M σ H Q g x q => q _ H _ g.refl p (.str i)
theorem ev_bl {i : Bool} (p : P (.bl i)) : Ev K B (tC (.bl i)) Γ P := fun M σ H Q g x q => q _ H _ g.refl p (.bl i)
theorem ev_non (p : P .non) : Ev K B (tC .non) Γ P := fun M σ H Q g x q => q _ H _ g.refl p .non
theorem ev_ty {n : String} (p : P (.ty n)) : Ev K B (tC (.ty n)) Γ P := fun M σ H Q g x q => q _ H _ g.refl p (.ty n)
theorem ev_ref {a : Addr} (p : P (.obj a)) : Ev K B (tC (.ref a)) Γ P := fun M σ H Q g x q => q _ H _ g.refl p (.obj a)
/-- two in a row -/
theorem ev_op {r : R2} (h : Ev K B ta Γ fun d => Ev K B tb Γ fun e => ∀ (M : List Addr) (H : Hp) (x y : V) (Q : VK), Good K B M H → Den K (hid M H) d x → Den K (hid M H) e y → (∀ v H' f, R K B H H' → P f → Den K (hid M H') f v → Q v H') → r x y H Q) :
    Ev K B (tOp r ta tb) Γ P := fun M σ H Q g x q =>
  h M σ H _ g x fun v H1 d r1 p1 h1 => p1 M σ H1 _ (g.r r1) (x.r g r1) fun u H2 e r2 p2 h2 =>
    p2 M H2 v u Q ((g.r r1).r r2) ((g.r r1).den r2 h1) h2 fun w H3 f r3 p3 h3 => q w H3 f ((r1.trans r2).trans r3) p3 h3
theorem ev_I0 {g : Int → Int → Int} (h : Ev K B ta Γ fun d => Ev K B tb Γ fun e => ∃ i j, d = .int i ∧ e = .int j ∧ P (.int (g i j))) : Ev K B (tOp (rI0 fun i j => .int (g i j)) ta tb) Γ P :=
  ev_op (h.mono fun d hd => hd.mono fun e ⟨i, j, e1, e2, p⟩ => fun M H x y Q gd dx dy q => by
    subst e1 e2; cases dx; cases dy
    exact ⟨i, j, rfl, rfl, q _ H _ gd.refl p (.int _)⟩)
theorem ev_B0 {g : Int → Int → Bool} (h : Ev K B ta Γ fun d => Ev K B tb Γ fun e => ∃ i j, d = .int i ∧ e = .int j ∧ P (.bl (g i j))) : Ev K B (tOp (rI0 fun i j => .bl (g i j)) ta tb) Γ P :=
  ev_op (h.mono fun d hd => hd.mono fun e ⟨i, j, e1, e2, p⟩ => fun M H x y Q gd dx dy q => by
    subst e1 e2; cases dx; cases dy
    exact ⟨i, j, rfl, rfl, q _ H _ gd.refl p (.bl _)⟩)
theorem ev_I {C : Int → Int → Prop} {g : Int → Int → Int} (h : Ev K B ta Γ fun d => Ev K B tb Γ fun e => ∃ i j, d = .int i ∧ e = .int j ∧ C i j ∧ P (.int (g i j))) : Ev K B (tOp (rI C fun i j => .int (g i j)) ta tb) Γ P :=
  ev_op (h.mono fun d hd => hd.mono fun e ⟨i, j, e1, e2, hc, p⟩ => fun M H x y Q gd dx dy q => by
    subst e1 e2; cases dx; cases dy
    exact ⟨i, j, rfl, rfl, hc, q _ H _ gd.refl p (.int _)⟩)
/-- scalars by == -/
def scD : D → D → Option Bool
  | .int i, .int j => some (decide (i = j))
  | .str i, .str j => some (decide (i = j))
  | .bl i, .bl j => some (decide (i = j))
  | .non, .non => some true
  | .int _, .str _ => some false
  | .str _, .int _ => some false
  | .non, .int _ => some false
  | .int _, .non => some false
  | .non, .bl _ => some false
  | .bl _, .non => some false
  | .non, .str _ => some false
  | .str _, .non => some false
  | .bl _, .str _ => some false
  | .str _, .bl _ => some false
  | _, _ => none
theorem scD_ok {H : Hp} {d e : D} {x y : V} {k : Bool} (h : scD d e = some k) (hx : Den K H d x) (hy : Den K H e y) : scal x y = true ∧ decide (x = y) = k := by
  cases hx <;> cases hy <;> first
    | (cases h; done)
    | (have h' := Option.some.inj h; subst h'; exact ⟨rfl, by simp⟩)
theorem ev_eq (h : Ev K B ta Γ fun d => Ev K B tb Γ fun e => ∃ k, scD d e = some k ∧ P (.bl k)) : Ev K B (tOp rEq ta tb) Γ P :=
  ev_op (h.mono fun d hd => hd.mono fun e ⟨k, hk, p⟩ => fun M H x y Q gd dx dy q => by
    obtain ⟨h1, h2⟩ := scD_ok hk dx dy
    exact ⟨h1, by rw [h2]; exact q _ H _ gd.refl p (.bl _)⟩)
theorem ev_ne (h : Ev K B ta Γ fun d => Ev K B tb Γ fun e => ∃ k, scD d e = some k ∧ P (.bl (!k))) : Ev K B (tOp rNe ta tb) Γ P :=
  ev_op (h.mono fun d hd => hd.mono fun e ⟨k, hk, p⟩ => fun M H x y Q gd dx dy q => by
    obtain ⟨h1, h2⟩ := scD_ok hk dx dy
    exact ⟨h1, by rw [h2]; exact q _ H _ gd.refl p (.bl _)⟩)
def isNon : D → Bool
  | .non => true
  | _ => false
theorem isNon_ok {H : Hp} {d : D} {x : V} (hx : Den K H d x) : decide (x = .non) = isNon d := by
  cases hx <;> simp [isNon]
theorem ev_isN (h : Ev K B ta Γ fun d => P (.bl (isNon d))) : Ev K B (tOp (fun x y H Q => y = .non ∧ Q (.bl (decide (x = .non))) H) ta (tC .non)) Γ P :=
  ev_op (h.mono fun d p => ev_non fun M H x y Q gd dx dy q => by
    cases dy
    exact ⟨rfl, by rw [isNon_ok dx]; exact q _ H _ gd.refl p (.bl _)⟩)
theorem ev_notN (h : Ev K B ta Γ fun d => P (.bl (!isNon d))) : Ev K B (tOp (fun x y H Q => y = .non ∧ Q (.bl (!decide (x = .non))) H) ta (tC .non)) Γ P :=
  ev_op (h.mono fun d p => ev_non fun M H x y Q gd dx dy q => by
    cases dy
    exact ⟨rfl, by rw [isNon_ok dx]; exact q _ H _ gd.refl p (.bl _)⟩)
theorem ev_add_str (h : Ev K B ta Γ fun d => Ev K B tb Γ fun e => ∃ i j, d = .str i ∧ e = .str j ∧ i.length + j.length ≤ sizeLine ∧ P (.str (i ++ j))) :
    Ev K B (tOp (fun x y H Q => ∃ i j, x = .str i ∧ y = .str j ∧ i.length + j.length ≤ sizeLine ∧ Q (.str (i ++ j)) H) ta tb) Γ P :=
  ev_op (h.mono fun d hd => hd.mono fun e ⟨i, j, e1, e2, hl, p⟩ => fun M H x y Q gd dx dy q => by
    subst e1 e2; cases dx; cases dy
    exact ⟨i, j, rfl, rfl, hl, q _ H _ gd.refl p (.str _)⟩)
/-! ### arguments, displays -/
variable {tr : TA} {PA : List D → Prop} {t u : TT} {PT : Bool → Prop}
theorem ea_nil (p : PA []) : EvA K B tNil Γ PA := fun M σ H Q g x q => q [] H [] g.refl p .nil
theorem ea_cons (h : Ev K B te Γ fun d => EvA K B tr Γ fun ds => PA (d :: ds)) : EvA K B (tCons te tr) Γ PA := fun M σ H Q g x q =>
  h M σ H _ g x fun v H1 d r1 p1 h1 => p1 M σ H1 _ (g.r r1) (x.r g r1) fun vs H2 ds r2 p2 h2 =>
    q (v :: vs) H2 (d :: ds) (r1.trans r2) p2 (.cons ((g.r r1).den r2 h1) h2)
theorem ev_tup (h : EvA K B tr Γ fun ds => ds.length ≤ sizeLine ∧ P (.tup ds)) : Ev K B (tTup tr) Γ P := fun M σ H Q g x q =>
  h M σ H _ g x fun vs H1 ds r1 ⟨hl, p1⟩ h1 => ⟨by rw [← h1.length]; exact hl, fun p hp => by
    have g1 := g.r r1
    have r2 := g1.new (o := .tup vs) hp
    exact q _ _ _ (r1.trans r2) p1 (.tup (.inl (.inl (hid_of (g1.fresh hp) upd_same))) (g1.dens r2 h1))⟩
theorem ev_lst (h : EvA K B tr Γ fun ds => ds.length ≤ sizeLine ∧ P (.lst ds)) : Ev K B (tLst tr) Γ P := fun M σ H Q g x q =>
  h M σ H _ g x fun vs H1 ds r1 ⟨hl, p1⟩ h1 => ⟨by rw [← h1.length]; exact hl, fun p hp => by
    have g1 := g.r r1
    have r2 := g1.new (o := .lst vs) hp
    exact q _ _ _ (r1.trans r2) p1 (.lst (hid_of (g1.fresh hp) upd_same) (g1.dens r2 h1))⟩
/-! ### tests -/
theorem EvT.mono {P P' : Bool → Prop} (h : EvT K B t Γ P) (e : ∀ k, P k → P' k) : EvT K B t Γ P' := fun M σ H Q g x q => h M σ H Q g x fun k H' r p => q k H' r (e k p)
theorem et_test (h : Ev K B te Γ fun d => ∃ k, d = .bl k ∧ PT k) : EvT K B (tTest te) Γ PT := fun M σ H Q g x q =>
  h M σ H _ g x fun v H1 d r1 ⟨k, e, p⟩ h1 => by
    subst e; cases h1
    exact ⟨k, rfl, q k H1 r1 p⟩
theorem et_B (h : Ev K B te Γ fun d => ∃ k, d = .bl k ∧ PT k) : EvT K B (tB te) Γ PT := fun M σ H Q g x q =>
  h M σ H _ g x fun v H1 d r1 ⟨k, e, p⟩ h1 => by
    subst e; cases h1
    exact ⟨k, rfl, q k H1 r1 p⟩
theorem et_not (h : EvT K B t Γ fun k => PT (!k)) : EvT K B (tNot t) Γ PT := fun M σ H Q g x q => h M σ H _ g x fun k H1 r1 p => q _ H1 r1 p
theorem et_and (h : EvT K B t Γ fun k => if k = true then EvT K B u Γ PT else PT false) : EvT K B (tAnd t u) Γ PT := fun M σ H Q g x q => h M σ H _ g x fun k H1 r1 p => by
  cases k with
  | true =>
    rw [if_pos rfl] at p ⊢
    exact p M σ H1 Q (g.r r1) (x.r g r1) fun k' H2 r2 p2 => q k' H2 (r1.trans r2) p2
  | false =>
    rw [if_neg Bool.false_ne_true] at p ⊢
    exact q false H1 r1 p
theorem et_or (h : EvT K B t Γ fun k => if k = true then PT true else EvT K B u Γ PT) : EvT K B (tOr t u) Γ PT := fun M σ H Q g x q => h M σ H _ g x fun k H1 r1 p => by
  cases k with
  | true =>
    rw [if_pos rfl] at p ⊢
    exact q true H1 r1 p
  | false =>
    rw [if_neg Bool.false_ne_true] at p ⊢
    exact p M σ H1 Q (g.r r1) (x.r g r1) fun k' H2 r2 p2 => q k' H2 (r1.trans r2) p2
theorem ev_andV (h : Ev K B ta Γ fun d => ∃ k, d = .bl k ∧ if k = true then Ev K B tb Γ P else P (.bl false)) : Ev K B (tAndV ta tb) Γ P := fun M σ H Q g x q =>
  h M σ H _ g x fun v H1 d r1 ⟨k, e, p⟩ h1 => by
    subst e; cases h1
    refine ⟨k, rfl, ?_⟩
    cases k with
    | true =>
      rw [if_pos rfl] at p ⊢
      exact p M σ H1 Q (g.r r1) (x.r g r1) fun v H2 d r2 p2 h2 => q v H2 d (r1.trans r2) p2 h2
    | false =>
      rw [if_neg Bool.false_ne_true] at p ⊢
      exact q _ H1 _ r1 p (.bl false)
theorem ev_orV (h : Ev K B ta Γ fun d => ∃ k, d = .bl k ∧ if k = true then P (.bl true) else Ev K B tb Γ P) : Ev K B (tOrV ta tb) Γ P := fun M σ H Q g x q =>
  h M σ H _ g x fun v H1 d r1 ⟨k, e, p⟩ h1 => by
    subst e; cases h1
    refine ⟨k, rfl, ?_⟩
    cases k with
    | true =>
      rw [if_pos rfl] at p ⊢
      exact q _ H1 _ r1 p (.bl true)
    | false =>
      rw [if_neg Bool.false_ne_true] at p ⊢
      exact p M σ H1 Q (g.r r1) (x.r g r1) fun v H2 d r2 p2 h2 => q v H2 d (r1.trans r2) p2 h2
theorem ev_notV (h : Ev K B ta Γ fun d => ∃ k, d = .bl k ∧ P (.bl (!k))) : Ev K B (tNotV ta) Γ P := fun M σ H Q g x q =>
  h M σ H _ g x fun v H1 d r1 ⟨k, e, p⟩ h1 => by
    subst e; cases h1
    exact ⟨k, rfl, q _ H1 _ r1 p (.bl _)⟩
theorem ev_ifE (h : EvT K B t Γ fun k => if k = true then Ev K B ta Γ P else Ev K B tb Γ P) : Ev K B (tIf t ta tb) Γ P := fun M σ H Q g x q => h M σ H _ g x fun k H1 r1 p => by
  cases k with
  | true =>
    rw [if_pos rfl] at p ⊢
    exact p M σ H1 Q (g.r r1) (x.r g r1) fun v H2 d r2 p2 h2 => q v H2 d (r1.trans r2) p2 h2
  | false =>
    rw [if_neg Bool.false_ne_true] at p ⊢
    exact p M σ H1 Q (g.r r1) (x.r g r1) fun v H2 d r2 p2 h2 => q v H2 d (r1.trans r2) p2 h2
/-- a op1 b op2 c -/
theorem ev_chain {r r' : R2} (h : Ev K B ta Γ fun d => Ev K B tb Γ fun e => ∃ k, (∀ (M : List Addr) (H : Hp) (x y : V) (Q : VK), Good K B M H → Den K (hid M H) d x → Den K (hid M H) e y → Q (.bl k) H → r x y H Q) ∧
      if k = true then Ev K B tc Γ fun f => ∃ k', (∀ (M : List Addr) (H : Hp) (x y : V) (Q : VK), Good K B M H → Den K (hid M H) e x → Den K (hid M H) f y → Q (.bl k') H → r' x y H Q) ∧ P (.bl k') else P (.bl false)) :
    Ev K B (tChain r r' ta tb tc) Γ P := fun M σ H Q g x q =>
  h M σ H _ g x fun v H1 d r1 p1 h1 => p1 M σ H1 _ (g.r r1) (x.r g r1) fun u H2 e r2 ⟨k, hr, p2⟩ h2 => by
    have g2 := (g.r r1).r r2
    refine hr M H2 v u _ g2 ((g.r r1).den r2 h1) h2 ⟨k, rfl, ?_⟩
    cases k with
    | true =>
      rw [if_pos rfl] at p2 ⊢
      refine p2 M σ H2 _ g2 (x.r g (r1.trans r2)) fun w H3 f r3 ⟨k', hr', p3⟩ h3 => ?_
      exact hr' M H3 u w Q (g2.r r3) (g2.den r3 h2) h3 (q _ H3 _ ((r1.trans r2).trans r3) p3 (.bl _))
    | false =>
      rw [if_neg Bool.false_ne_true] at p2 ⊢
      exact q _ H2 _ (r1.trans r2) p2 (.bl false)
theorem ch_int {g : Int → Int → Bool} {i j : Int} : ∀ (M : List Addr) (H : Hp) (x y : V) (Q : VK), Good K B M H → Den K (hid M H) (.int i) x → Den K (hid M H) (.int j) y → Q (.bl (g i j)) H → rI0 (fun i j => .bl (g i j)) x y H Q :=
  fun M H x y Q _ hx hy q => by cases hx; cases hy; exact ⟨i, j, rfl, rfl, q⟩
end
end DL

set_option maxHeartbeats 2000000
namespace DL
open PySem PySem.Spec PyProof.Rows L2 RZ
/-! ### calls of defs whose promise speaks of data -/
/-- n arguments; F B ds P: called with ds (the box at b) it hands back something of which P is true -/
def SpD (K : PySem.W.Frag) (n : Nat) (F : Bx → List D → (D → Prop) → Prop) : Sp := fun vs H Q _ => vs.length = n ∧ ∃ (B : Bx) (M : List Addr) (ds : List D) (P : D → Prop),
  Good K B M H ∧ DenAll K (hid M H) ds vs ∧ F B ds P ∧ ∀ v H' d, R K B H H' → P d → Den K (hid M H') d v → Q v H'
section
variable {K : PySem.W.Frag} {B : Bx} {Γ : Gam} {te ta tb tc : TE} {P P' : D → Prop} {t u : TT} {tr : TA} {F : Bx → List D → (D → Prop) → Prop} {n : Nat}
theorem ev_call {E : XK} (h : EvA K B tr Γ fun ds => ds.length = n ∧ F B ds P) : Ev K B (tCall (SpD K n F) [] E tr) Γ P := fun M σ H Q g x q =>
  h M σ H _ g x fun vs H1 ds r1 ⟨hl, p1⟩ h1 => by
    show SpD K n F (vs ++ []) H1 Q E
    rw [List.append_nil]
    exact ⟨by rw [← h1.length]; exact hl, B, M, ds, P, g.r r1, h1, p1, fun v H' d r2 p2 h2 => q v H' d (r1.trans r2) p2 h2⟩
/-- with one default behind the arguments -/
theorem ev_callD {E : XK} {dvs : List V} {dds : List D} (hd : ∀ H, DenAll K H dds dvs) (h : EvA K B tr Γ fun ds => (ds ++ dds).length = n ∧ F B (ds ++ dds) P) : Ev K B (tCall (SpD K n F) dvs E tr) Γ P := fun M σ H Q g x q =>
  h M σ H _ g x fun vs H1 ds r1 ⟨hl, p1⟩ h1 => by
    show SpD K n F (vs ++ dvs) H1 Q E
    have h2 := h1.app (hd (hid M H1))
    exact ⟨by rw [← h2.length]; exact hl, B, M, ds ++ dds, P, g.r r1, h2, p1, fun v H' d r2 p2 h2 => q v H' d (r1.trans r2) p2 h2⟩
end

/-! ### statements -/
structure Pst where
  nx : Gam → Prop
  rt : D → Prop
  bk : Gam → Prop := fun _ => False
  ct : Gam → Prop := fun _ => False
def Rn (K : PySem.W.Frag) (B : Bx) (ts : TS) (Γ : Gam) (P : Pst) : Prop := ∀ (M : List Addr) (σ : L2.St) (H : Hp) (E : Ends), Good K B M H → EnvOk K M H σ Γ →
  (∀ σ' H' Γ', R K B H H' → P.nx Γ' → EnvOk K M H' σ' Γ' → E.nx σ' H') → (∀ v H' d, R K B H H' → P.rt d → Den K (hid M H') d v → E.rt v H') →
  (∀ σ' H' Γ', R K B H H' → P.bk Γ' → EnvOk K M H' σ' Γ' → E.bk σ' H') → (∀ σ' H' Γ', R K B H H' → P.ct Γ' → EnvOk K M H' σ' Γ' → E.ct σ' H') → ts E σ H
section
variable {K : PySem.W.Frag} {B : Bx} {Γ : Gam} {te ta tb tc : TE} {P P' : Pst} {t u : TS} {c : TT}
theorem rn_next (p : P.nx Γ) : Rn K B tNext Γ P := fun M σ H E g x k1 k2 k3 k4 => k1 σ H Γ g.refl p x
theorem rn_seq (h : Rn K B t Γ { P with nx := fun Γ' => Rn K B u Γ' P }) : Rn K B (tSeq t u) Γ P := fun M σ H E g x k1 k2 k3 k4 =>
  h M σ H { E with nx := u E } g x (fun σ' H' Γ' r p x' => p M σ' H' E (g.r r) x' (fun σ2 H2 Γ2 r2 => k1 σ2 H2 Γ2 (r.trans r2)) (fun v H2 d r2 => k2 v H2 d (r.trans r2)) (fun σ2 H2 Γ2 r2 => k3 σ2 H2 Γ2 (r.trans r2)) (fun σ2 H2 Γ2 r2 => k4 σ2 H2 Γ2 (r.trans r2))) k2 k3 k4
theorem rn_if (h : EvT K B c Γ fun k => if k = true then Rn K B t Γ P else Rn K B u Γ P) : Rn K B (tIfS c t u) Γ P := fun M σ H E g x k1 k2 k3 k4 =>
  h M σ H _ g x fun k H1 r p => by
    cases k with
    | true =>
      rw [if_pos rfl] at p ⊢
      exact p M σ H1 E (g.r r) (x.r g r) (fun σ2 H2 Γ2 r2 => k1 σ2 H2 Γ2 (r.trans r2)) (fun v H2 d r2 => k2 v H2 d (r.trans r2)) (fun σ2 H2 Γ2 r2 => k3 σ2 H2 Γ2 (r.trans r2)) (fun σ2 H2 Γ2 r2 => k4 σ2 H2 Γ2 (r.trans r2))
    | false =>
      rw [if_neg Bool.false_ne_true] at p ⊢
      exact p M σ H1 E (g.r r) (x.r g r) (fun σ2 H2 Γ2 r2 => k1 σ2 H2 Γ2 (r.trans r2)) (fun v H2 d r2 => k2 v H2 d (r.trans r2)) (fun σ2 H2 Γ2 r2 => k3 σ2 H2 Γ2 (r.trans r2)) (fun σ2 H2 Γ2 r2 => k4 σ2 H2 Γ2 (r.trans r2))
theorem rn_ret (h : Ev K B te Γ P.rt) : Rn K B (tRet te) Γ P := fun M σ H E g x k1 k2 k3 k4 => h M σ H _ g x fun v H1 d r p dn => k2 v H1 d r p dn
theorem rn_retN (p : P.rt .non) : Rn K B tRetN Γ P := fun M σ H E g x k1 k2 k3 k4 => k2 _ H _ g.refl p .non
theorem rn_set {i : Nat} (h : Ev K B te Γ fun d => P.nx (Γ.set i (some d))) : Rn K B (tAsg te (gName i)) Γ P := fun M σ H E g x k1 k2 k3 k4 =>
  h M σ H _ g x fun v H1 d r p dn => k1 _ H1 _ r p ((x.r g r).set dn)
theorem rn_drop (h : Ev K B te Γ fun _ => P.nx Γ) : Rn K B (tDrop te) Γ P := fun M σ H E g x k1 k2 k3 k4 =>
  h M σ H _ g x fun v H1 d r p dn => k1 _ H1 _ r p (x.r g r)
theorem rn_par {i j : Nat} {tr : TA} (h : EvA K B tr Γ fun ds => ∃ d e, ds = [d, e] ∧ P.nx ((Γ.set i (some d)).set j (some e))) : Rn K B (tPar i j tr) Γ P := fun M σ H E g x k1 k2 k3 k4 =>
  h M σ H _ g x fun vs H1 ds r ⟨d, e, q, p⟩ dn => by
    subst q
    cases dn with
    | cons h1 h2 =>
      cases h2 with
      | cons h2 h3 =>
        cases h3
        exact ⟨_, _, rfl, k1 _ H1 _ r p (((x.r g r).set h1).set h2)⟩
theorem rn_brk (p : P.bk Γ) : Rn K B tBreak Γ P := fun M σ H E g x k1 k2 k3 k4 => k3 σ H Γ g.refl p x
theorem rn_cont (p : P.ct Γ) : Rn K B tCont Γ P := fun M σ H E g x k1 k2 k3 k4 => k4 σ H Γ g.refl p x
/-- name += e for ints -/
theorem rn_aug {i : Nat} {f : Int → Int → Int} {a : Int} (hx : Γ[i]? = some (some (.int a))) (h : Ev K B te Γ fun d => ∃ z, d = .int z ∧ P.nx (Γ.set i (some (.int (f a z))))) : Rn K B (tAug i te (ipI f)) Γ P := fun M σ H E g x k1 k2 k3 k4 => by
  obtain ⟨v, h1, h2⟩ := x.at_ i _ hx
  cases h2
  exact ⟨.int a, h1, h M σ H _ g x fun v H1 d r ⟨z, e, p⟩ dn => by
    subst e; cases dn
    exact ⟨a, z, rfl, rfl, k1 _ H1 _ r p ((x.r g r).set (.int _))⟩⟩
end

/-! ### what is walked -/
/-- what is seen has not changed -/
def Rv (M : List Addr) (H H1 : Hp) : Prop := ∀ a o, hid M H a = some o → H1 a = some o
theorem R.v {K : PySem.W.Frag} {B : Bx} {M : List Addr} {H H1 : Hp} (r : R K B H H1) (hb : ∀ {a}, a ∉ M → B.No a) : Rv M H H1 := fun a o e => by
  obtain ⟨n, q⟩ := hid_get e
  exact r.2 a o q (hb n)
/-- J walks just the data ds, whatever new things come meanwhile -/
def Wk (K : PySem.W.Frag) (B : Bx) (M : List Addr) (H : Hp) (J : It) (ds : List D) : Prop := ∀ H1, Good K B M H1 → Rv M H H1 →
  (∀ i d, ds[i]? = some d → J.go i H1 ∧ ∀ x H2, J.yld i H1 x H2 → R K B H1 H2 ∧ Den K (hid M H2) d x) ∧ J.stop ds.length H1
def EvI (K : PySem.W.Frag) (B : Bx) (wi : TI) (Γ : Gam) (P : List D → Prop) : Prop := ∀ (M : List Addr) (σ : L2.St) (H : Hp) (Rk : It → Hp → Prop), Good K B M H → EnvOk K M H σ Γ →
  (∀ J H' ds, R K B H H' → P ds → (∀ M', (∀ a ∈ M, a ∈ M') → (∀ a ∈ M', a ∈ M ∨ H' a = none) → Wk K B M' H' J ds) → Rk J H') → wi σ H Rk
/-- a target gets d; vs: the slots that may change -/
def EvG (K : PySem.W.Frag) (B : Bx) (g : TG) (vs : List Nat) (Γ : Gam) (d : D) (P : Gam → Prop) : Prop := ∀ (M : List Addr) (σ : L2.St) (H : Hp) (v : V) (Q : L2.St → Hp → Prop), Good K B M H → EnvOk K M H σ Γ → Den K (hid M H) d v →
  (∀ σ' Γ', P Γ' → EnvOk K M H σ' Γ' → σ'.length = σ.length → (∀ j, j ∉ vs → σ'[j]? = σ[j]?) → Q σ' H) → g v σ H Q
section
variable {K : PySem.W.Frag} {B : Bx} {Γ : Gam} {te ta tb tc : TE} {tr : TA} {wi : TI} {g : TG}
theorem eg_name {i : Nat} {vs : List Nat} {d : D} {P : Gam → Prop} (hi : i ∈ vs) (p : P (Γ.set i (some d))) : EvG K B (gName i) vs Γ d P := fun M σ H v Q g x dn q =>
  q _ _ p (x.set dn) (by rw [List.length_set]) fun j hj => by rw [List.getElem?_set_ne (fun z => hj (by rw [← z]; exact hi))]
theorem eg_pair {i j : Nat} {vs : List Nat} {d e : D} {P : Gam → Prop} (hi : i ∈ vs) (hj : j ∈ vs) (p : P ((Γ.set i (some d)).set j (some e))) : EvG K B (gTup K 2 (gCons (gName i) (gCons (gName j) gNil))) vs Γ (.tup [d, e]) P := fun M σ H v Q g x dn q => by
  cases dn with
  | tup h1 h2 =>
    cases h2 with
    | cons d1 h2 =>
      cases h2 with
      | cons d2 h2 =>
        cases h2
        refine ⟨_, _, rfl, SqT.sub hid_sub h1, rfl, _, _, rfl, _, _, rfl, rfl, ?_⟩
        refine q _ _ p ((x.set d1).set d2) (by rw [List.length_set, List.length_set]) fun k hk => ?_
        rw [List.getElem?_set_ne (fun z => hk (by rw [← z]; exact hj)), List.getElem?_set_ne (fun z => hk (by rw [← z]; exact hi))]
theorem wipe_get {σ : L2.St} : ∀ {vs : List Nat} {j : Nat}, j ∈ vs → j < σ.length → (L2.wipe σ vs)[j]? = some none
  | v :: vs, j, h, hl => by
    unfold L2.wipe
    by_cases e : v = j
    · subst e
      exact List.getElem?_set_self (by rw [L2.wipe_length]; exact hl)
    · rw [List.getElem?_set_ne e]
      rcases List.mem_cons.mp h with z | z
      · exact absurd z.symm e
      · exact wipe_get z hl
theorem wipe_eq {σ τ : L2.St} {vs : List Nat} (hl : τ.length = σ.length) (h : ∀ j, j ∉ vs → τ[j]? = (L2.wipe σ vs)[j]?) : L2.wipe τ vs = L2.wipe σ vs := by
  apply List.ext_getElem?
  intro j
  by_cases hj : j ∈ vs
  · by_cases hb : j < σ.length
    · rw [wipe_get hj hb, wipe_get hj (by rw [hl]; exact hb)]
    · rw [List.getElem?_eq_none (by rw [L2.wipe_length]; omega), List.getElem?_eq_none (by rw [L2.wipe_length]; omega)]
  · rw [L2.wipe_out hj]
    exact h j hj
/-- a list comprehension, by an invariant over the turns and what is made so far -/
theorem ev_lc {tt : TT} {vs : List Nat} {P : D → Prop} (hi : EvI K B wi Γ fun ds => ds.length < sizeLine ∧ ∃ I : Nat → List D → Prop, I 0 [] ∧
      (∀ i d acc, ds[i]? = some d → I i acc → acc.length ≤ i → EvG K B g vs (wipeG Γ vs) d fun Γ' => EvT K B tt Γ' fun k => if k = true then Ev K B te Γ' fun e => I (i + 1) (acc ++ [e]) else I (i + 1) acc) ∧
      ∀ acc, I ds.length acc → acc.length ≤ ds.length → P (.lst acc)) : Ev K B (tLc wi g tt te vs) Γ P := fun M σ H Q gd x q =>
  hi M σ H _ gd x fun J H1 ds r1 ⟨hz, I, i0, it, ie⟩ wk p hp => by
    have g1 := gd.r r1
    have x1 := x.r gd r1
    have pb := g1.fresh_b hp
    have pl := g1.fresh_l hp
    have g1' : Good K B (p :: M) (upd H1 p (.lst [])) := g1.own hp
    have w := wk (p :: M) (fun a ha => List.mem_cons_of_mem _ ha) (fun a ha => by
      rcases List.mem_cons.mp ha with e | ha
      · exact .inr (by rw [e]; exact hp)
      · exact .inl ha)
    refine ⟨fun i m H2 => m = ds.length - i ∧ i ≤ ds.length ∧ ∃ acc av, Good K B (p :: M) H2 ∧ R K B H1 H2 ∧ H2 p = some (.lst av) ∧ DenAll K (hid (p :: M) H2) acc av ∧ I i acc ∧ acc.length ≤ i,
      ⟨ds.length, by simp, Nat.zero_le _, [], [], g1', g1.new hp, upd_same, .nil, i0, Nat.le_refl _⟩, ?_⟩
    rintro i m H2 ⟨rfl, hil, acc, av, g2, r2, hp2, da, hI, hal⟩
    obtain ⟨wy, ws⟩ := w H2 g2 (r2.v g2.no)
    by_cases hlt : i < ds.length
    · have hd : ds[i]? = some ds[i] := List.getElem?_eq_getElem hlt
      obtain ⟨wg, wn⟩ := wy i _ hd
      refine .inr ⟨wg, fun H3 => ∃ acc av, Good K B (p :: M) H3 ∧ R K B H1 H3 ∧ H3 p = some (.lst av) ∧ DenAll K (hid (p :: M) H3) acc av ∧ I (i + 1) acc ∧ acc.length ≤ i + 1,
        fun H' h' => ⟨ds.length - (i + 1), by omega, rfl, hlt, h'⟩, fun v H3 hy => ?_⟩
      obtain ⟨r3, dv⟩ := wn v H3 hy
      have g3 := g2.r r3
      have x3 : EnvOk K (p :: M) H3 σ Γ := ⟨x1.len, fun k e hk => by
        obtain ⟨u, hu, du⟩ := x1.at_ k e hk
        exact ⟨u, hu, Den.sub (fun a o ha => by
          obtain ⟨n, qa⟩ := hid_get ha
          have na : a ≠ p := ne_of_none qa hp
          refine hid_of (fun z => ?_) ((r2.trans r3).2 a o qa (g1.no n))
          rcases List.mem_cons.mp z with z | z
          · exact na z
          · exact n z) e u du⟩⟩
      refine it i _ acc hd hI hal (p :: M) (L2.wipe σ vs) H3 v _ g3 (x3.wipe vs) dv fun σ' Γ' pg x4 hlen hout => ?_
      refine ⟨wipe_eq (by rw [hlen, L2.wipe_length]) hout, ?_⟩
      refine pg (p :: M) σ' H3 _ g3 x4 fun k H4 r4 pk => ?_
      have g4 := g3.r r4
      cases k with
      | false =>
        rw [if_neg Bool.false_ne_true] at pk ⊢
        exact ⟨acc, av, g4, r2.trans (r3.trans r4), (r3.trans r4).2 p _ hp2 pb, g2.dens (r3.trans r4) da, pk, by omega⟩
      | true =>
        rw [if_pos rfl] at pk ⊢
        refine pk (p :: M) σ' H4 _ g4 (x4.r g3 r4) fun y H5 e r5 pe de => ?_
        have g5 := g4.r r5
        have r25 := r3.trans (r4.trans r5)
        have hp5 := r25.2 p _ hp2 pb
        have da5 := g2.dens r25 da
        refine ⟨av, hp5, by rw [← da.length]; omega, acc ++ [e], av ++ [y], g5.putOwn pb pl (.of hp5 fun φ z => by cases z) (g1.h0 hp), (r2.trans r25).putNew hp pb pl (.of hp5 fun φ z => by cases z), upd_same, ?_, pe, by rw [List.length_append, List.length_singleton]; omega⟩
        · rw [hid_put List.mem_cons_self]
          exact da5.snoc de
    · have e : i = ds.length := by omega
      subst e
      refine .inl ⟨ws, ?_⟩
      refine q _ H2 _ (r1.trans r2) (ie acc hI hal) (.lst (hid_of (g1.fresh hp) hp2) (DenAll.sub hid_less _ _ da))
/-- a loop, by an invariant over the turns and the names -/
theorem rn_for {tu : TS} {P : Pst} (hi : EvI K B wi Γ fun ds => ∃ I : Nat → Gam → Prop, I 0 Γ ∧
      (∀ i d Γ1, ds[i]? = some d → I i Γ1 → ∃ vs, EvG K B g vs Γ1 d fun Γ2 => Rn K B tu Γ2 { P with nx := I (i + 1), ct := I (i + 1), bk := P.nx }) ∧
      ∀ Γ1, I ds.length Γ1 → P.nx Γ1) : Rn K B (tFor wi g tu) Γ P := fun M σ H E gd x k1 k2 k3 k4 =>
  hi M σ H _ gd x fun J H1 ds r1 ⟨I, i0, it, ie⟩ wk => by
    have g1 := gd.r r1
    have w := wk M (fun _ h => h) fun _ h => .inl h
    refine ⟨fun i m σ2 H2 => m = ds.length - i ∧ i ≤ ds.length ∧ ∃ Γ2, Good K B M H2 ∧ R K B H1 H2 ∧ EnvOk K M H2 σ2 Γ2 ∧ I i Γ2, ⟨ds.length, by simp, Nat.zero_le _, Γ, g1, g1.refl, x.r gd r1, i0⟩, ?_⟩
    rintro i m σ2 H2 ⟨rfl, hil, Γ2, g2, r2, x2, hI⟩
    obtain ⟨wy, ws⟩ := w H2 g2 (r2.v g2.no)
    by_cases hlt : i < ds.length
    · have hd : ds[i]? = some ds[i] := List.getElem?_eq_getElem hlt
      obtain ⟨wg, wn⟩ := wy i _ hd
      refine .inr ⟨wg, fun σ3 H3 => ∃ Γ3, Good K B M H3 ∧ R K B H1 H3 ∧ EnvOk K M H3 σ3 Γ3 ∧ I (i + 1) Γ3, fun σ' H' h' => ⟨ds.length - (i + 1), by omega, rfl, hlt, h'⟩, fun v H3 hy => ?_⟩
      obtain ⟨r3, dv⟩ := wn v H3 hy
      have g3 := g2.r r3
      obtain ⟨vs, eg⟩ := it i _ Γ2 hd hI
      refine eg M σ2 H3 v _ g3 (x2.r g2 r3) dv fun σ' Γ' pg x4 _ _ => ?_
      have r13 := r2.trans r3
      refine pg M σ' H3 _ g3 x4 (fun σ5 H5 Γ5 r5 p5 x5 => ?_) (fun v H5 d r5 p5 d5 => ?_) (fun σ5 H5 Γ5 r5 p5 x5 => ?_) fun σ5 H5 Γ5 r5 p5 x5 => ?_
      · exact ⟨Γ5, g3.r r5, r13.trans r5, x5, p5⟩
      · exact k2 v H5 d (r1.trans (r13.trans r5)) p5 d5
      · exact k1 σ5 H5 Γ5 (r1.trans (r13.trans r5)) p5 x5
      · exact ⟨Γ5, g3.r r5, r13.trans r5, x5, p5⟩
    · have e : i = ds.length := by omega
      subst e
      exact .inl ⟨ws, k1 σ2 H2 Γ2 (r1.trans r2) (ie Γ2 hI) x2⟩
end
end DL

set_option maxHeartbeats 2000000
namespace DL
open PySem PySem.Spec PyProof.Rows L2 RZ
section
variable {K : PySem.W.Frag} {B : Bx} {Γ : Gam} {te ta tb tc : TE} {tr : TA} {P : D → Prop} {PI : List D → Prop}
/-! ### iterators -/
def rangeD (lo : Int) (n : Nat) : List D := (List.range n).map fun (i : Nat) => D.int (lo + (i : Int))
theorem rangeD_len (lo : Int) (n : Nat) : (rangeD lo n).length = n := by unfold rangeD; rw [List.length_map, List.length_range]
theorem rangeD_get {lo : Int} {n i : Nat} {d : D} (h : (rangeD lo n)[i]? = some d) : i < n ∧ d = .int (lo + (i : Int)) := by
  unfold rangeD at h
  rw [List.getElem?_map] at h
  by_cases hi : i < n
  · rw [List.getElem?_range hi] at h
    exact ⟨hi, (Option.some.inj h).symm⟩
  · rw [List.getElem?_eq_none (by rw [List.length_range]; omega)] at h
    cases h
theorem wk_rng {M : List Addr} {H : Hp} {lo : Int} {n : Nat} : Wk K B M H (Itr lo n) (rangeD lo n) := fun H1 g r => ⟨fun i d h => by
  obtain ⟨hi, e⟩ := rangeD_get h
  subst e
  refine ⟨hi, fun x H2 y => ?_⟩
  obtain ⟨e1, e2⟩ := y
  subst e1 e2
  exact ⟨g.refl, .int _⟩, by rw [rangeD_len]; exact Nat.le_refl _⟩
theorem ei_rng1 (h : EvA K B tr Γ fun ds => ∃ n : Int, ds = [.int n] ∧ -(2 ^ 62) ≤ n ∧ n < 2 ^ 62 ∧ PI (rangeD 0 n.toNat)) : EvI K B (iRng1 tr) Γ PI := fun M σ H Rk g x q =>
  h M σ H _ g x fun vs H1 ds r ⟨n, e, h1, h2, p⟩ dn => by
    subst e
    cases dn with
    | cons d1 d2 =>
      cases d1; cases d2
      exact ⟨n, rfl, h1, h2, q _ H1 _ r p fun _ _ _ => wk_rng⟩
theorem ei_rng2 (h : EvA K B tr Γ fun ds => ∃ i j : Int, ds = [.int i, .int j] ∧ (-(2 ^ 62) ≤ i ∧ i < 2 ^ 62 ∧ -(2 ^ 62) ≤ j ∧ j < 2 ^ 62) ∧ PI (rangeD i (j - i).toNat)) : EvI K B (iRng2 tr) Γ PI := fun M σ H Rk g x q =>
  h M σ H _ g x fun vs H1 ds r ⟨i, j, e, h1, p⟩ dn => by
    subst e
    cases dn with
    | cons d1 d2 =>
      cases d2 with
      | cons d2 d3 =>
        cases d1; cases d2; cases d3
        exact ⟨i, j, rfl, h1, q _ H1 _ r p fun _ _ _ => wk_rng⟩
theorem den_up {M M' : List Addr} {H : Hp} {d : D} {v : V} (h2 : ∀ a ∈ M', a ∈ M ∨ H a = none) (h : Den K (hid M H) d v) : Den K (hid M' H) d v := Den.sub (fun a o e => by
  obtain ⟨n, q⟩ := hid_get e
  refine hid_of (fun z => ?_) q
  rcases h2 a z with z | z
  · exact n z
  · rw [q] at z; cases z) d v h
theorem dens_up {M M' : List Addr} {H : Hp} {ds : List D} {vs : List V} (h2 : ∀ a ∈ M', a ∈ M ∨ H a = none) (h : DenAll K (hid M H) ds vs) : DenAll K (hid M' H) ds vs := DenAll.sub (fun a o e => by
  obtain ⟨n, q⟩ := hid_get e
  refine hid_of (fun z => ?_) q
  rcases h2 a z with z | z
  · exact n z
  · rw [q] at z; cases z) ds vs h
/-- over a list that stands -/
theorem wk_list {M : List Addr} {H : Hp} {a : Addr} {xs : List V} {ds : List D} (h : hid M H a = some (.lst xs)) (hd : DenAll K (hid M H) ds xs) : Wk K B M H (Itl K a) ds := fun H1 g r => by
  obtain ⟨hn, hq⟩ := hid_get h
  have hb : a ≠ B.b := fun z => hn (by rw [z]; exact g.mem)
  have h1 : H1 a = some (.lst xs) := r a _ h
  refine ⟨fun i d hi => ?_, ⟨xs, SqL.of h1, Nat.le_of_eq hd.length.symm⟩⟩
  obtain ⟨v, hv, dv⟩ := hd.get hi
  refine ⟨⟨xs, v, SqL.of h1, hv⟩, fun x H2 y => ?_⟩
  obtain ⟨e, y⟩ := y
  subst e
  have e2 : x = v := Option.some.inj ((y xs (SqL.of h1)).symm.trans hv)
  subst e2
  refine ⟨g.refl, Den.sub (fun a o ha => ?_) d _ dv⟩
  obtain ⟨n, qa⟩ := hid_get ha
  exact hid_of n (r a o ha)
theorem wk_tup {M : List Addr} {H : Hp} {a : Addr} {xs : List V} {ds : List D} (h : SqT K (hid M H) a xs) (hd : DenAll K (hid M H) ds xs) : Wk K B M H (Itt K a) ds := fun H1 g r => by
  have h1 : SqT K H1 a xs := SqT.sub (fun c o hc => by
    exact r c o hc) h
  refine ⟨fun i d hi => ?_, ⟨xs, h1, Nat.le_of_eq hd.length.symm⟩⟩
  obtain ⟨v, hv, dv⟩ := hd.get hi
  refine ⟨⟨xs, v, h1, hv⟩, fun x H2 y => ?_⟩
  obtain ⟨e, y⟩ := y
  subst e
  have e2 : x = v := Option.some.inj ((y xs h1).symm.trans hv)
  subst e2
  refine ⟨g.refl, Den.sub (fun a o ha => ?_) d _ dv⟩
  obtain ⟨n, qa⟩ := hid_get ha
  exact hid_of n (r a o ha)
def charsD (x : Str) : List D := x.cps.toList.map fun c => D.str ⟨#[c]⟩
theorem wk_str {M : List Addr} {H : Hp} {x : Str} : Wk K B M H (Its x) (charsD x) := fun H1 g r => by
  have hl : (charsD x).length = x.cps.size := by unfold charsD; rw [List.length_map, Array.length_toList]
  refine ⟨fun i d hi => ?_, by rw [hl]; exact Nat.le_refl _⟩
  unfold charsD at hi
  rw [List.getElem?_map] at hi
  cases q : x.cps.toList[i]? with
  | none => rw [q] at hi; cases hi
  | some c =>
    rw [q] at hi
    have e := Option.some.inj hi
    subst e
    have hlt : i < x.cps.toList.length := (List.getElem?_eq_some_iff.mp q).1
    rw [Array.length_toList] at hlt
    refine ⟨hlt, fun v H2 y => ?_⟩
    obtain ⟨e1, c', hc, ev⟩ := y
    subst e1
    rw [← Array.getElem?_toList, q] at hc
    cases hc
    subst ev
    exact ⟨g.refl, .str _⟩
theorem ei_str (h : Ev K B te Γ fun d => ∃ x, d = .str x ∧ PI (charsD x)) : EvI K B (iStr te) Γ PI := fun M σ H Rk g x q =>
  h M σ H _ g x fun v H1 d r ⟨y, e, p⟩ dn => by
    subst e; cases dn
    exact ⟨y, rfl, q _ H1 _ r p fun _ _ _ => wk_str⟩
theorem ei_list {tl : TE} (h : Ev K B tl Γ fun d => ∃ ds, d = .lst ds ∧ PI ds) : EvI K B (iList K tl) Γ PI := fun M σ H Rk g x q =>
  h M σ H _ g x fun v H1 d r ⟨ds, e, p⟩ dn => by
    subst e
    cases dn with
    | lst h1 h2 => exact ⟨_, rfl, ⟨_, SqL.of (hid_get h1).2⟩, q _ H1 _ r p fun M' s1 s2 => wk_list (hid_of (fun z => by
        rcases s2 _ z with z | z
        · exact (hid_get h1).1 z
        · rw [(hid_get h1).2] at z; cases z) (hid_get h1).2) (dens_up s2 h2)⟩
theorem sqT_up {M M' : List Addr} {H : Hp} {a : Addr} {xs : List V} (h2 : ∀ a ∈ M', a ∈ M ∨ H a = none) (h : SqT K (hid M H) a xs) : SqT K (hid M' H) a xs := SqT.sub (fun a o e => by
  obtain ⟨n, q⟩ := hid_get e
  refine hid_of (fun z => ?_) q
  rcases h2 a z with z | z
  · exact n z
  · rw [q] at z; cases z) h
theorem ei_tup {tl : TE} (h : Ev K B tl Γ fun d => ∃ ds, d = .tup ds ∧ PI ds) : EvI K B (iTup K tl) Γ PI := fun M σ H Rk g x q =>
  h M σ H _ g x fun v H1 d r ⟨ds, e, p⟩ dn => by
    subst e
    cases dn with
    | tup h1 h2 => exact ⟨_, rfl, ⟨_, SqT.sub hid_sub h1⟩, q _ H1 _ r p fun M' s1 s2 => wk_tup (sqT_up s2 h1) (dens_up s2 h2)⟩
def zipD : List D → List D → List D
  | x :: xs, y :: ys => .tup [x, y] :: zipD xs ys
  | _, _ => []
theorem zipD_get : ∀ {xs ys : List D} {i : Nat} {d : D}, (zipD xs ys)[i]? = some d → ∃ x y, xs[i]? = some x ∧ ys[i]? = some y ∧ d = .tup [x, y]
  | [], _, _, _, h => by simp [zipD] at h
  | _ :: _, [], _, _, h => by simp [zipD] at h
  | x :: xs, y :: ys, 0, d, h => ⟨x, y, rfl, rfl, (Option.some.inj h).symm⟩
  | x :: xs, y :: ys, i + 1, d, h => zipD_get (xs := xs) (ys := ys) (i := i) h
theorem zipD_len : ∀ {xs ys : List D}, xs.length ≤ (zipD xs ys).length ∨ ys.length ≤ (zipD xs ys).length
  | [], _ => .inl (Nat.zero_le _)
  | _ :: _, [] => .inr (Nat.zero_le _)
  | x :: xs, y :: ys => by
    rcases zipD_len (xs := xs) (ys := ys) with h | h
    · exact .inl (Nat.succ_le_succ h)
    · exact .inr (Nat.succ_le_succ h)
theorem zipD_le : ∀ {xs ys : List D}, (zipD xs ys).length ≤ xs.length
  | [], _ => Nat.le_refl _
  | _ :: _, [] => Nat.zero_le _
  | x :: xs, y :: ys => Nat.succ_le_succ (zipD_le (xs := xs) (ys := ys))
theorem rec_sub {B : Bx} {M : List Addr} {H H1 : Hp} (g : Good K B M H1) (r : Rv M H H1) : ∀ a o, hid M H a = some o → hid M H1 a = some o := fun a o ha => hid_of (hid_get ha).1 (r a o ha)
theorem wk_zip {M : List Addr} {H : Hp} {a b : Addr} {xs ys : List V} {ds es : List D} (h : hid M H a = some (.lst xs)) (hd : DenAll K (hid M H) ds xs) (h' : hid M H b = some (.lst ys)) (he : DenAll K (hid M H) es ys) : Wk K B M H (Itz K a b) (zipD ds es) := fun H1 g r => by
  have h1 := SqL.of (K := K) (hid_get (rec_sub g r a _ h)).2
  have h2 := SqL.of (K := K) (hid_get (rec_sub g r b _ h')).2
  refine ⟨fun i d hi => ?_, ⟨xs, ys, h1, h2, by rw [← hd.length, ← he.length]; exact zipD_len⟩⟩
  obtain ⟨dx, dy, gx, gy, e⟩ := zipD_get hi
  subst e
  obtain ⟨v, hv, dv⟩ := hd.get gx
  obtain ⟨u, hu, du⟩ := he.get gy
  refine ⟨⟨xs, ys, v, u, h1, h2, hv, hu⟩, fun x H2 y => ?_⟩
  obtain ⟨T, x1, y1, ex, nT, eH, f1, f2⟩ := y
  have e1 := Option.some.inj ((f1 _ h1).symm.trans hv)
  have e2 := Option.some.inj ((f2 _ h2).symm.trans hu)
  subst ex e1 e2 eH
  have r2 := g.new (o := .tup [x1, y1]) nT
  refine ⟨r2, .tup (.inl (.inl (hid_of (g.fresh nT) upd_same))) ?_⟩
  refine g.dens r2 (.cons (Den.sub (rec_sub g r) _ _ dv) (.cons (Den.sub (rec_sub g r) _ _ du) .nil))
theorem wk_zipT {M : List Addr} {H : Hp} {a b : Addr} {xs ys : List V} {ds es : List D} (h : SqT K (hid M H) a xs) (hd : DenAll K (hid M H) ds xs) (h' : SqT K (hid M H) b ys) (he : DenAll K (hid M H) es ys) : Wk K B M H (ItzT K a b) (zipD ds es) := fun H1 g r => by
  have h1 := SqT.sub hid_sub (SqT.sub (rec_sub g r) h)
  have h2 := SqT.sub hid_sub (SqT.sub (rec_sub g r) h')
  refine ⟨fun i d hi => ?_, ⟨xs, ys, h1, h2, by rw [← hd.length, ← he.length]; exact zipD_len⟩⟩
  obtain ⟨dx, dy, gx, gy, e⟩ := zipD_get hi
  subst e
  obtain ⟨v, hv, dv⟩ := hd.get gx
  obtain ⟨u, hu, du⟩ := he.get gy
  refine ⟨⟨xs, ys, v, u, h1, h2, hv, hu⟩, fun x H2 y => ?_⟩
  obtain ⟨T, x1, y1, ex, nT, eH, f1, f2⟩ := y
  have e1 := Option.some.inj ((f1 _ h1).symm.trans hv)
  have e2 := Option.some.inj ((f2 _ h2).symm.trans hu)
  subst ex e1 e2 eH
  have r2 := g.new (o := .tup [x1, y1]) nT
  refine ⟨r2, .tup (.inl (.inl (hid_of (g.fresh nT) upd_same))) ?_⟩
  refine g.dens r2 (.cons (Den.sub (rec_sub g r) _ _ dv) (.cons (Den.sub (rec_sub g r) _ _ du) .nil))
theorem ei_zip (h : EvA K B tr Γ fun ds => ∃ xs ys, (ds = [.lst xs, .lst ys] ∨ ds = [.tup xs, .tup ys]) ∧ PI (zipD xs ys)) : EvI K B (iZipA K tr) Γ PI := fun M σ H Rk g x q =>
  h M σ H _ g x fun vs H1 ds r ⟨xs, ys, e, p⟩ dn => by
    rcases e with e | e
    · subst e
      cases dn with
      | cons d1 d2 =>
        cases d2 with
        | cons d2 d3 =>
          cases d3
          cases d1 with
          | lst a1 a2 =>
            cases d2 with
            | lst b1 b2 =>
              refine ⟨_, _, _, _, rfl, .inl ⟨SqL.of (hid_get a1).2, SqL.of (hid_get b1).2, q _ H1 _ r p fun M' s1 s2 => ?_⟩⟩
              have up : ∀ {a : Addr} {o : HO}, hid M H1 a = some o → hid M' H1 a = some o := fun {a o} ha => hid_of (fun z => by
                rcases s2 _ z with z | z
                · exact (hid_get ha).1 z
                · rw [(hid_get ha).2] at z; cases z) (hid_get ha).2
              exact wk_zip (up a1) (dens_up s2 a2) (up b1) (dens_up s2 b2)
    · subst e
      cases dn with
      | cons d1 d2 =>
        cases d2 with
        | cons d2 d3 =>
          cases d3
          cases d1 with
          | tup a1 a2 =>
            cases d2 with
            | tup b1 b2 => exact ⟨_, _, _, _, rfl, .inr ⟨SqT.sub hid_sub a1, SqT.sub hid_sub b1, q _ H1 _ r p fun M' s1 s2 => wk_zipT (sqT_up s2 a1) (dens_up s2 a2) (sqT_up s2 b1) (dens_up s2 b2)⟩⟩
/-! ### built-ins -/
def lenD : D → Option Nat
  | .str x => if x.length ≤ sizeLine then some x.length else none
  | .lst ds => some ds.length
  | .tup ds => some ds.length
  | _ => none
theorem ev_len (h : EvA K B tr Γ fun ds => ∃ d n, ds = [d] ∧ lenD d = some n ∧ P (.int (n : Nat))) : Ev K B (tCB (fun xs H Q => ∃ x n, xs = [x] ∧ LenV K x H n ∧ Q (.int n) H) tr) Γ P := fun M σ H Q g x q =>
  h M σ H _ g x fun vs H1 ds r ⟨d, n, e, hn, p⟩ dn => by
    subst e
    cases dn with
    | cons d1 d2 =>
      cases d2
      refine ⟨_, n, rfl, ?_, q _ H1 _ r p (.int _)⟩
      cases d1 with
      | str y =>
        have hn' : (if y.length ≤ sizeLine then some y.length else none) = some n := hn
        by_cases hl : y.length ≤ sizeLine
        · rw [if_pos hl] at hn'
          exact ⟨hl, (Option.some.inj hn').symm⟩
        · rw [if_neg hl] at hn'; cases hn'
      | lst a1 a2 => exact .inl ⟨_, SqL.of (hid_get a1).2, by rw [← a2.length]; exact (Option.some.inj hn).symm⟩
      | tup a1 a2 => exact .inr ⟨_, SqT.sub hid_sub a1, by rw [← a2.length]; exact (Option.some.inj hn).symm⟩
      | _ => cases hn
theorem dens_bl {H : Hp} : ∀ {bs : List Bool} {vs : List V}, DenAll K H (bs.map D.bl) vs → vs = bs.map V.bl
  | [], _, h => by cases h; rfl
  | c :: bs, _, h => by
    cases h with
    | cons h1 h2 =>
      cases h1
      rw [List.map_cons, dens_bl h2]
theorem dens_str {H : Hp} : ∀ {bs : List Str} {vs : List V}, DenAll K H (bs.map D.str) vs → vs = bs.map V.str
  | [], _, h => by cases h; rfl
  | c :: bs, _, h => by
    cases h with
    | cons h1 h2 =>
      cases h1
      rw [List.map_cons, dens_str h2]
theorem ev_all (h : EvA K B tr Γ fun ds => ∃ bs : List Bool, ds = [.lst (bs.map D.bl)] ∧ P (.bl (bs.all id))) : Ev K B (tCB (rAll K) tr) Γ P := fun M σ H Q g x q =>
  h M σ H _ g x fun vs H1 ds r ⟨bs, e, p⟩ dn => by
    subst e
    cases dn with
    | cons d1 d2 =>
      cases d2
      cases d1 with
      | lst a1 a2 =>
        have e := dens_bl a2
        subst e
        exact ⟨_, bs, rfl, SqL.of (hid_get a1).2, q _ H1 _ r p (.bl _)⟩
theorem ev_any (h : EvA K B tr Γ fun ds => ∃ bs : List Bool, ds = [.lst (bs.map D.bl)] ∧ P (.bl (bs.any id))) : Ev K B (tCB (rAny K) tr) Γ P := fun M σ H Q g x q =>
  h M σ H _ g x fun vs H1 ds r ⟨bs, e, p⟩ dn => by
    subst e
    cases dn with
    | cons d1 d2 =>
      cases d2
      cases d1 with
      | lst a1 a2 =>
        have e := dens_bl a2
        subst e
        exact ⟨_, bs, rfl, SqL.of (hid_get a1).2, q _ H1 _ r p (.bl _)⟩
/-- sep.join(list of texts) -/
theorem ev_join (h : Ev K B ta Γ fun d => ∃ a, d = .str a ∧ Ev K B tb Γ fun e => ∃ ys : List Str, (e = .lst (ys.map D.str) ∨ e = .tup (ys.map D.str)) ∧ (ys.map (·.length)).sum + ys.length * a.length ≤ 16777216 ∧ P (.str (Txt.join a ys))) :
    Ev K B (tM1 (fun x xs H Q => ∃ a p, ∃ ys : List Str, x = .str a ∧ xs = [.ref p] ∧ (SqL K H p (ys.map V.str) ∨ SqT K H p (ys.map V.str)) ∧ (ys.map (·.length)).sum + ys.length * a.length ≤ 16777216 ∧ Q (.str (Txt.join a ys)) H) ta tb) Γ P := fun M σ H Q g x q =>
  h M σ H _ g x fun v H1 d r ⟨a, e, p⟩ dn => by
    subst e; cases dn
    refine ⟨⟨a, rfl⟩, p M σ H1 _ (g.r r) (x.r g r) fun u H2 e r2 ⟨ys, ey, hz, p2⟩ dn2 => ?_⟩
    rcases ey with ey | ey
    · subst ey
      cases dn2 with
      | lst a1 a2 =>
        have e := dens_str a2
        subst e
        exact ⟨a, _, ys, rfl, rfl, .inl (SqL.of (hid_get a1).2), hz, q _ H2 _ (r.trans r2) p2 (.str _)⟩
    · subst ey
      cases dn2 with
      | tup a1 a2 =>
        have e := dens_str a2
        subst e
        exact ⟨a, _, ys, rfl, rfl, .inr (SqT.sub hid_sub a1), hz, q _ H2 _ (r.trans r2) p2 (.str _)⟩
/-! ### subscripts -/
def itemD : D → D → Option D
  | .lst ds, .int i => atI ds i
  | .tup ds, .int i => atI ds i
  | .str z, .int i => if z.length ≤ sizeLine then (atI z.cps.toList i).map fun c => .str ⟨#[c]⟩ else none
  | _, _ => none
theorem atI_den {H : Hp} {ds : List D} {vs : List V} {i : Int} {d : D} (h : DenAll K H ds vs) (e : atI ds i = some d) : ∃ v, atI vs i = some v ∧ Den K H d v := by
  unfold atI at e ⊢
  rw [h.length] at e
  cases q : ixN vs.length i with
  | none => rw [q] at e; cases e
  | some j =>
    rw [q] at e
    exact h.get (show ds[j]? = some d from e)
theorem ev_ix (h : Ev K B ta Γ fun d => Ev K B tb Γ fun e => ∃ f, itemD d e = some f ∧ P f) : Ev K B (tOp (rIx K) ta tb) Γ P :=
  ev_op (h.mono fun d hd => hd.mono fun e ⟨f, hf, p⟩ => fun M H x y Q g dx dy q => by
    cases dy with
    | int i =>
      cases dx with
      | lst a1 a2 =>
        obtain ⟨v, hv, dv⟩ := atI_den a2 hf
        exact .inl ⟨_, _, i, v, rfl, rfl, SqL.of (hid_get a1).2, hv, q v H f g.refl p dv⟩
      | tup a1 a2 =>
        obtain ⟨v, hv, dv⟩ := atI_den a2 hf
        exact .inr (.inl ⟨_, _, i, v, rfl, rfl, SqT.sub hid_sub a1, hv, q v H f g.refl p dv⟩)
      | str z =>
        have hf' : (if z.length ≤ sizeLine then (atI z.cps.toList i).map fun c => D.str ⟨#[c]⟩ else none) = some f := hf
        by_cases hl : z.length ≤ sizeLine
        · rw [if_pos hl] at hf'
          cases e : atI z.cps.toList i with
          | none => rw [e] at hf'; cases hf'
          | some c =>
            rw [e] at hf'
            have e' := Option.some.inj hf'
            subst e'
            exact .inr (.inr ⟨z, i, c, rfl, rfl, hl, e, q _ H _ g.refl p (.str _)⟩)
        · rw [if_neg hl] at hf'; cases hf'
      | _ => cases hf
    | _ => cases dx <;> cases hf)
/-! ### slices -/
theorem eo_none {PO : Option Int → Prop} (p : PO none) : EvO K B tNoPart Γ PO := fun M σ H Q g x q => q none H g.refl p
theorem eo_some {PO : Option Int → Prop} (h : Ev K B te Γ fun d => ∃ i, d = .int i ∧ PO (some i)) : EvO K B (tPart te) Γ PO := fun M σ H Q g x q =>
  h M σ H _ g x fun v H1 d r ⟨i, e, p⟩ dn => by
    subst e; cases dn
    exact ⟨i, rfl, q _ H1 r p⟩
theorem ev_slS {tl th : TO} (h : Ev K B ta Γ fun d => ∃ z, d = .str z ∧ z.length ≤ sizeLine ∧ EvO K B tl Γ fun lo => EvO K B th Γ fun hi => P (.str (cutS z lo hi))) : Ev K B (tSl rSlS ta tl th) Γ P := fun M σ H Q g x q =>
  h M σ H _ g x fun v H1 d r ⟨z, e, hz, p⟩ dn => by
    subst e; cases dn
    exact p M σ H1 _ (g.r r) (x.r g r) fun lo H2 r2 p2 => p2 M σ H2 _ ((g.r r).r r2) (x.r g (r.trans r2)) fun hi H3 r3 p3 => ⟨z, rfl, hz, q _ H3 _ (r.trans (r2.trans r3)) p3 (.str _)⟩
def cutD (xs : List D) (lo hi : Option Int) : List D := (xs.drop (HT.sIx xs.length 0 lo)).take (HT.sIx xs.length xs.length hi - HT.sIx xs.length 0 lo)
theorem DenAll.drop {H : Hp} : ∀ {ds : List D} {vs : List V} (n : Nat), DenAll K H ds vs → DenAll K H (ds.drop n) (vs.drop n)
  | _, _, 0, h => h
  | [], _, n + 1, h => by cases h; exact .nil
  | d :: ds, _, n + 1, h => by
    cases h with
    | cons h1 h2 => exact DenAll.drop n h2
theorem DenAll.take {H : Hp} : ∀ {ds : List D} {vs : List V} (n : Nat), DenAll K H ds vs → DenAll K H (ds.take n) (vs.take n)
  | _, _, 0, h => .nil
  | [], _, n + 1, h => by cases h; exact .nil
  | d :: ds, _, n + 1, h => by
    cases h with
    | cons h1 h2 => exact .cons h1 (DenAll.take n h2)
theorem ev_slL {tl th : TO} (h : Ev K B ta Γ fun d => ∃ ds, d = .lst ds ∧ EvO K B tl Γ fun lo => EvO K B th Γ fun hi => P (.lst (cutD ds lo hi))) : Ev K B (tSl (rSlL K) ta tl th) Γ P := fun M σ H Q g x q =>
  h M σ H _ g x fun v H1 d r ⟨ds, e, p⟩ dn => by
    subst e
    exact p M σ H1 _ (g.r r) (x.r g r) fun lo H2 r2 p2 => p2 M σ H2 _ ((g.r r).r r2) (x.r g (r.trans r2)) fun hi H3 r3 p3 => by
      have g3 := ((g.r r).r r2).r r3
      have dn3 := (g.r r).den (r2.trans r3) dn
      cases dn3 with
      | @lst _ zs _ a1 a2 =>
        refine ⟨_, _, rfl, SqL.of (hid_get a1).2, fun p hp => ?_⟩
        have r4 := g3.new (o := .lst (cutV zs lo hi)) hp
        refine q _ _ _ ((r.trans (r2.trans r3)).trans r4) p3 (.lst (hid_of (g3.fresh hp) upd_same) (g3.dens r4 ?_))
        unfold cutD cutV
        rw [a2.length]
        exact (a2.drop _).take _
/-! ### + and * of lists -/
theorem ev_cat (h : Ev K B ta Γ fun d => Ev K B tb Γ fun e => ∃ xs ys, d = .lst xs ∧ e = .lst ys ∧ xs.length + ys.length ≤ sizeLine ∧ P (.lst (xs ++ ys))) : Ev K B (tOp rCat ta tb) Γ P :=
  ev_op (h.mono fun d hd => hd.mono fun e ⟨xs, ys, e1, e2, hz, p⟩ => fun M H x y Q g dx dy q => by
    subst e1 e2
    cases dx with
    | lst a1 a2 =>
      cases dy with
      | lst b1 b2 =>
        refine ⟨_, _, _, _, rfl, rfl, (hid_get a1).2, (hid_get b1).2, by rw [← a2.length, ← b2.length]; exact hz, fun p' hp => ?_⟩
        exact q _ _ _ (g.new hp) p (.lst (hid_of (g.fresh hp) upd_same) (g.dens (g.new hp) (a2.app b2))))
theorem den_rep {H : Hp} {ds : List D} {vs : List V} (h : DenAll K H ds vs) : ∀ n : Nat, DenAll K H (List.replicate n ds).flatten (List.replicate n vs).flatten
  | 0 => .nil
  | n + 1 => by
    rw [List.replicate_succ, List.replicate_succ, List.flatten_cons, List.flatten_cons]
    exact h.app (den_rep h n)
theorem ev_rep (h : Ev K B ta Γ fun d => Ev K B tb Γ fun e => ∃ xs k, d = .lst xs ∧ e = .int k ∧ -(2 ^ 63) ≤ k ∧ k < 2 ^ 63 ∧ xs.length * k.toNat ≤ sizeLine ∧ P (.lst (List.replicate k.toNat xs).flatten)) : Ev K B (tOp rRep ta tb) Γ P :=
  ev_op (h.mono fun d hd => hd.mono fun e ⟨xs, k, e1, e2, h1, h2, hz, p⟩ => fun M H x y Q g dx dy q => by
    subst e1 e2
    cases dy
    cases dx with
    | lst a1 a2 =>
      refine ⟨_, _, _, rfl, rfl, (hid_get a1).2, h1, h2, by rw [← a2.length]; exact hz, fun p' hp => ?_⟩
      exact q _ _ _ (g.new hp) p (.lst (hid_of (g.fresh hp) upd_same) (g.dens (g.new hp) (den_rep a2 _))))
/-- text * int -/
def repS (z : Str) (n : Nat) : Str := ⟨(List.replicate n z.cps.toList).flatten.toArray⟩
theorem foldl_cat (xs : Array Nat) : ∀ (n : Nat) (acc : Array Nat), List.foldl (· ++ ·) acc (List.replicate n xs) = (acc.toList ++ (List.replicate n xs.toList).flatten).toArray
  | 0, acc => by simp
  | n + 1, acc => by
    rw [List.replicate_succ, List.foldl_cons, foldl_cat xs n, List.replicate_succ, List.flatten_cons]
    simp
theorem repS_eq (z : Str) (n : Nat) : (⟨(List.replicate n z.cps).foldl (· ++ ·) #[]⟩ : Str) = repS z n := by
  rw [foldl_cat]
  rfl
theorem repS_len (z : Str) (n : Nat) : (repS z n).length = n * z.length := by
  show ((List.replicate n z.cps.toList).flatten.toArray).size = n * z.cps.size
  rw [List.size_toArray, List.length_flatten, List.map_replicate, List.sum_replicate_nat, Array.length_toList]
def rMulS : R2 := fun x y H Q => ∃ z k, x = .str z ∧ y = .int k ∧ 2 ≤ k ∧ k ≤ 1000 ∧ 1 ≤ z.length ∧ z.length ≤ 1000 ∧ Q (.str (repS z k.toNat)) H
theorem tooLong_small {n : Nat} (h : n ≤ 1000000) : Builtin.Str.tooLong n = false := by
  unfold Builtin.Str.tooLong
  first
    | exact decide_eq_false (by have := sizeLine_eq; omega)
    | (simp; have := sizeLine_eq; omega)
theorem op_mulS {X : Cx} : OpR X (binaryOp .Mult) rMulS := by
  intro pins s σ H x y v u Q I rx ry h
  obtain ⟨z, k, rfl, rfl, h1, h2, h3, h4, q⟩ := h
  obtain ⟨t, rfl⟩ := rx
  obtain ⟨t', rfl⟩ := ry
  have hk : k.toNat ≤ 1000 := by omega
  have hm : z.length * k.toNat ≤ 1000000 := Nat.le_trans (Nat.mul_le_mul h4 hk) (by decide)
  refine PySem.P.mul_str (by
      have a1 : ¬ k < -(2 ^ 63 : Int) := by omega
      have a2 : ¬ k ≥ (2 ^ 63 : Int) := by omega
      rw [decide_eq_false a1, decide_eq_false a2]; rfl) (fun _ _ => ?_) (fun _ _ => tooLong_small hm) ?_
  · have e1 : (1000000 : Int) ≤ (2 ^ 63 - 1) / k := by
      rw [Int.le_ediv_iff_mul_le (by omega)]
      omega
    omega
  · have a0 : ¬ k < 1 := by omega
    rw [if_neg a0]
    have a3 : (k == 1) = false := beq_eq_false_iff_ne.mpr (by omega)
    have a4 : (z.length == 0) = false := beq_eq_false_iff_ne.mpr (by omega)
    rw [if_neg (by rw [a3, a4]; decide)]
    rw [repS_eq]
    refine ⟨?_, .str _, H, I.tok _, ⟨_, rfl⟩, q⟩
    rw [repS_len, Nat.mul_comm]
    exact Nat.le_trans hm (by rw [sizeLine_eq]; decide)
theorem ev_mulS (h : Ev K B ta Γ fun d => Ev K B tb Γ fun e => ∃ z k, d = .str z ∧ e = .int k ∧ 2 ≤ k ∧ k ≤ 1000 ∧ 1 ≤ z.length ∧ z.length ≤ 1000 ∧ P (.str (repS z k.toNat))) : Ev K B (tOp rMulS ta tb) Γ P :=
  ev_op (h.mono fun d hd => hd.mono fun e ⟨z, k, e1, e2, h1, h2, h3, h4, p⟩ => fun M H x y Q g dx dy q => by
    subst e1 e2
    cases dx; cases dy
    exact ⟨z, k, rfl, rfl, h1, h2, h3, h4, q _ H _ g.refl p (.str _)⟩)
/-- one sign in a text -/
theorem ev_in_sign (h : Ev K B ta Γ fun d => Ev K B tb Γ fun e => ∃ (c : Nat) (z : Str), d = .str ⟨#[c]⟩ ∧ e = .str z ∧ P (.bl (decide (c ∈ z.cps.toList)))) :
    Ev K B (tOp (fun x y H Q => ∃ (c : Nat) (z : Str), x = .str ⟨#[c]⟩ ∧ y = .str z ∧ Q (.bl (decide (c ∈ z.cps.toList))) H) ta tb) Γ P :=
  ev_op (h.mono fun d hd => hd.mono fun e ⟨c, z, e1, e2, p⟩ => fun M H x y Q g dx dy q => by
    subst e1 e2
    cases dx; cases dy
    exact ⟨c, z, rfl, rfl, q _ H _ g.refl p (.bl _)⟩)
theorem ev_int1 (h : EvA K B tr Γ fun ds => ∃ i, ds = [.int i] ∧ P (.int i)) : Ev K B (tCB (fun xs H Q => (∃ i, xs = [.int i] ∧ Q (.int i) H) ∨ ∃ k, xs = [.bl k] ∧ Q (.int (if k then 1 else 0)) H) tr) Γ P := fun M σ H Q g x q =>
  h M σ H _ g x fun vs H1 ds r ⟨i, e, p⟩ dn => by
    subst e
    cases dn with
    | cons d1 d2 =>
      cases d2; cases d1
      exact .inl ⟨i, rfl, q _ H1 _ r p (.int _)⟩
/-! ### isinstance -/
def tyD : D → Option String
  | .non => some "NoneType"
  | .bl _ => some "bool"
  | .int _ => some "int"
  | .str _ => some "str"
  | .lst _ => some "list"
  | .tup _ => some "tuple"
  | _ => none
theorem tyD_ok {H : Hp} {d : D} {x : V} {n : String} {M : List Addr} (h : tyD d = some n) (dx : Den K (hid M H) d x) : TyX K H x (.type n) := by
  cases dx with
  | non => cases h; exact .base .non
  | bl _ => cases h; exact .base (.bl _)
  | int _ => cases h; exact .base (.int _)
  | str _ => cases h; exact .base (.str _)
  | lst a1 _ => cases h; exact .base (.lst (hid_get a1).2)
  | tup a1 _ =>
    cases h
    rcases a1 with (a1 | ⟨o, a1⟩) | ⟨o, its, n, hk, hc, _⟩
    · exact .base (.tup (hid_get a1).2)
    · exact .fTuple (hid_get a1).2
    · exact .kTuple hk hc
  | _ => cases h
theorem ev_isi (h : EvA K B tr Γ fun ds => ∃ d n m k, ds = [d, .ty m] ∧ tyD d = some n ∧ kitB n m = some k ∧ P (.bl k)) : Ev K B (tCB (rIsi K) tr) Γ P := fun M σ H Q g x q =>
  h M σ H _ g x fun vs H1 ds r ⟨d, n, m, k, e, hn, hk, p⟩ dn => by
    subst e
    cases dn with
    | cons d1 d2 =>
      cases d2 with
      | cons d2 d3 =>
        cases d3
        cases d2
        exact ⟨_, _, _, _, k, rfl, .ty m, tyD_ok hn d1, kit_ty hk, q _ H1 _ r p (.bl _)⟩
def kitAll (n : String) : List String → Option Bool
  | [] => some false
  | m :: ms => match kitB n m with
    | some true => some true
    | some false => kitAll n ms
    | none => none
theorem kitAll_ok {n : String} : ∀ {ms : List String} {k : Bool}, kitAll n ms = some k → PySem.W.kitAny K (.type n) (ms.map Value.type) = some k
  | [], k, h => by cases h; exact kitAny_nil
  | m :: ms, k, h => by
    unfold kitAll at h
    cases q : kitB n m with
    | none => rw [q] at h; cases h
    | some c =>
      rw [q] at h
      cases c with
      | true => cases h; exact kitAny_cons (kit_ty q) (fun z => by cases z) fun _ => rfl
      | false => exact kitAny_cons (kit_ty q) (fun _ => kitAll_ok h) fun z => by cases z
theorem dens_ty {H : Hp} : ∀ {ms : List String} {vs : List V}, DenAll K H (ms.map D.ty) vs → Paired ClsV vs (ms.map Value.type)
  | [], _, h => by cases h; exact .nil
  | m :: ms, _, h => by
    cases h with
    | cons h1 h2 =>
      cases h1
      exact .cons (.ty m) (dens_ty h2)
/-- isinstance(x, (T1, T2)): the tuple is made on the way -/
theorem ev_isiT {tq : TA} (h : Ev K B ta Γ fun d => ∃ n k ms, tyD d = some n ∧ kitAll n ms = some k ∧ P (.bl k) ∧ EvA K B tq Γ fun ds => ds = ms.map D.ty ∧ ds.length ≤ sizeLine) :
    Ev K B (tCB (rIsiT K) (tCons ta (tCons (tTup tq) tNil))) Γ P := fun M σ H Q g x q =>
  h M σ H _ g x fun v H1 d r ⟨n, k, ms, hn, hk, p, hq⟩ dn => hq M σ H1 _ (g.r r) (x.r g r) fun vs H2 ds r2 ⟨e, hz⟩ dn2 => by
    subst e
    refine ⟨by rw [← dn2.length]; exact hz, fun p' hp => ?_⟩
    have g2 := (g.r r).r r2
    have r3 := g2.new (o := .tup vs) hp
    exact ⟨v, p', vs, _, _, k, rfl, upd_same, dens_ty dn2, tyD_ok hn ((g.r r).den (r2.trans r3) dn), kitAll_ok hk, q _ _ _ (r.trans (r2.trans r3)) p (.bl _)⟩
end
end DL

set_option maxHeartbeats 2000000
namespace DL
open PySem PySem.Spec PyProof.Rows L2 RZ
/-- the names' data at a def's entry -/
def startG (n : Nat) (ds : List D) : Gam := ds.map some ++ List.replicate (n - ds.length) none
theorem run_body {K : PySem.W.Frag} {B : Bx} {M : List Addr} {H : Hp} {t : TS} {N : List Str} {ds : List D} {vs : List V} {P : D → Prop} {Q : VK} (g : Good K B M H) (hd : DenAll K (hid M H) ds vs) (q : ∀ v H' d, R K B H H' → P d → Den K (hid M H') d v → Q v H')
    (h : Rn K B t (startG N.length ds) { nx := fun _ => P .non, rt := P }) : t { nx := fun _ H' => Q .non H', rt := Q } (L2.start N vs) H := by
  refine h M (L2.start N vs) H _ g ⟨?_, fun i d e => ?_⟩ (fun σ' H' Γ' r p _ => q _ H' _ r p .non) (fun v H' d r p dn => q v H' d r p dn) (fun _ _ _ _ p => False.elim p) fun _ _ _ _ p => False.elim p
  · unfold L2.start startG
    rw [List.length_append, List.length_append, List.length_map, List.length_map, List.length_replicate, List.length_replicate, hd.length]
  · unfold startG at e
    unfold L2.start
    by_cases hi : i < ds.length
    · rw [List.getElem?_append_left (by rw [List.length_map]; exact hi), List.getElem?_map] at e
      cases q : ds[i]? with
      | none => rw [q] at e; cases e
      | some d' =>
        rw [q] at e
        have e' : d' = d := Option.some.inj (Option.some.inj e)
        subst e'
        obtain ⟨v, hv, dv⟩ := hd.get q
        refine ⟨v, ?_, dv⟩
        rw [List.getElem?_append_left (by rw [List.length_map, ← hd.length]; exact hi), List.getElem?_map, hv]
        rfl
    · rw [List.getElem?_append_right (by rw [List.length_map]; omega), List.getElem?_replicate] at e
      split at e <;> cases e
/-! ### isinstance, short -/
def baseD : D → Bool
  | .non => true
  | .bl _ => true
  | .int _ => true
  | .str _ => true
  | .lst _ => true
  | .tup _ => true
  | _ => false
inductive Tn where
  | str | int | bool | list | tuple | dict
def Tn.s : Tn → String
  | .str => "str" | .int => "int" | .bool => "bool" | .list => "list" | .tuple => "tuple" | .dict => "dict"
inductive Kd where
  | non | bool | int | str | list | tuple | dict
def Kd.s : Kd → String
  | .non => "NoneType" | .bool => "bool" | .int => "int" | .str => "str" | .list => "list" | .tuple => "tuple" | .dict => "dict"
def isK : Tn → Kd → Bool
  | .bool, .bool => true
  | .int, .bool => true
  | .int, .int => true
  | .str, .str => true
  | .list, .list => true
  | .tuple, .tuple => true
  | .dict, .dict => true
  | _, _ => false
def kdD : D → Kd
  | .bl _ => .bool
  | .int _ => .int
  | .str _ => .str
  | .lst _ => .list
  | .tup _ => .tuple
  | _ => .non
def isA (m : Tn) (d : D) : Bool := isK m (kdD d)
theorem kit_tab : ∀ (k : Kd) (m : Tn), kitB k.s m.s = some (isK m k) := by
  intro k m
  cases k <;> cases m <;> decide +kernel
theorem tyD_kd {d : D} (h : baseD d = true) : tyD d = some (kdD d).s := by
  cases d <;> first
    | (cases h; done)
    | rfl
theorem isi_ok {m : Tn} {d : D} (h : baseD d = true) : ∃ n, tyD d = some n ∧ kitB n m.s = some (isA m d) := ⟨_, tyD_kd h, kit_tab _ m⟩
theorem isi2_ok {m m' : Tn} {d : D} (h : baseD d = true) : ∃ n, tyD d = some n ∧ kitAll n [m.s, m'.s] = some (isA m d || isA m' d) := by
  refine ⟨_, tyD_kd h, ?_⟩
  unfold kitAll isA
  rw [kit_tab]
  cases isK m (kdD d) with
  | true => rfl
  | false =>
    unfold kitAll
    rw [kit_tab]
    cases isK m' (kdD d) <;> rfl
section
variable {K : PySem.W.Frag} {B : Bx} {Γ : Gam} {ta : TE} {tr : TA} {P : D → Prop}
theorem ev_is (h : EvA K B tr Γ fun ds => ∃ d m, ds = [d, .ty (Tn.s m)] ∧ baseD d = true ∧ P (.bl (isA m d))) : Ev K B (tCB (rIsi K) tr) Γ P :=
  ev_isi fun M σ H Q g x q => h M σ H Q g x fun vs H' ds r ⟨d, m, e, hb, p⟩ dn => by
    obtain ⟨n, h1, h2⟩ := isi_ok (m := m) hb
    exact q vs H' ds r ⟨d, n, m.s, isA m d, e, h1, h2, p⟩ dn
theorem ev_is2 {m m' : Tn} (h : Ev K B ta Γ fun d => baseD d = true ∧ P (.bl (isA m d || isA m' d))) :
    Ev K B (tCB (rIsiT K) (tCons ta (tCons (tTup (tCons (tC (.ty m.s)) (tCons (tC (.ty m'.s)) tNil))) tNil))) Γ P :=
  ev_isiT (h.mono fun d ⟨hb, p⟩ => by
    obtain ⟨n, h1, h2⟩ := isi2_ok (m := m) (m' := m') hb
    exact ⟨n, _, [m.s, m'.s], h1, h2, p, ea_cons (ev_ty (ea_cons (ev_ty (ea_nil ⟨rfl, by show 2 ≤ sizeLine; rw [sizeLine_eq]; decide⟩))))⟩)
theorem ev_strlit (h : Ev K B ta Γ P) : Ev K B ta Γ P := h
end
theorem iT {c : Bool} {A B : Prop} (h : c = true) (a : A) : if c = true then A else B := by rw [if_pos h]; exact a
theorem iF {c : Bool} {A B : Prop} (h : c = false) (a : B) : if c = true then A else B := by rw [if_neg (by rw [h]; decide)]; exact a
theorem i2 {c : Bool} {A B : Prop} (a : c = true → A) (b : c = false → B) : if c = true then A else B := by
  cases c with
  | true => rw [if_pos rfl]; exact a rfl
  | false => rw [if_neg Bool.false_ne_true]; exact b rfl
section
variable {K : PySem.W.Frag} {B : Bx} {Γ : Gam} {te ta tb tc : TE} {tr : TA} {P : D → Prop} {wi : TI} {g : TG}
theorem et_yes {PT : Bool → Prop} (p : PT true) : EvT K B tYes Γ PT := fun M σ H Q g x q => q true H g.refl p
theorem EvG.mono {vs : List Nat} {d : D} {P P' : Gam → Prop} (h : EvG K B g vs Γ d P) (e : ∀ Γ', P Γ' → P' Γ') : EvG K B g vs Γ d P' := fun M σ H v Q g x dn q => h M σ H v Q g x dn fun σ' Γ' p => q σ' Γ' (e Γ' p)
theorem EvI.mono {P P' : List D → Prop} (h : EvI K B wi Γ P) (e : ∀ ds, P ds → P' ds) : EvI K B wi Γ P' := fun M σ H R g x q => h M σ H R g x fun J H' ds r p => q J H' ds r (e ds p)
theorem EvA.mono {P P' : List D → Prop} (h : EvA K B tr Γ P) (e : ∀ ds, P ds → P' ds) : EvA K B tr Γ P' := fun M σ H R g x q => h M σ H R g x fun J H' ds r p => q J H' ds r (e ds p)
theorem ev_lc_filter {tt : TT} {vs : List Nat} (hi : EvI K B wi Γ fun ds => ds.length < sizeLine ∧ ∃ (f : D → D) (c : D → Bool),
    (∀ d, d ∈ ds → EvG K B g vs (wipeG Γ vs) d fun Γ' => EvT K B tt Γ' fun k => k = c d ∧ (k = true → Ev K B te Γ' fun e => e = f d)) ∧ P (.lst ((ds.filter c).map f))) : Ev K B (tLc wi g tt te vs) Γ P :=
  ev_lc (hi.mono fun ds ⟨hz, f, c, h, p⟩ => by
    refine ⟨hz, fun i acc => acc = ((ds.take i).filter c).map f, rfl, fun i d acc hd ha _ => ?_, fun acc ha _ => ?_⟩
    · subst ha
      have e1 : ds.take (i + 1) = ds.take i ++ [d] := by rw [List.take_add_one, hd]; rfl
      refine (h d (List.mem_of_getElem? hd)).mono fun Γ' p1 => p1.mono fun k ⟨ek, p2⟩ => ?_
      cases k with
      | true =>
        refine iT rfl ((p2 rfl).mono fun e ee => ?_)
        subst ee
        show _ = ((ds.take (i + 1)).filter c).map f
        rw [e1, List.filter_append, List.map_append]
        congr 1
        rw [List.filter_cons, if_pos ek.symm]
        rfl
      | false =>
        refine iF rfl ?_
        show _ = ((ds.take (i + 1)).filter c).map f
        rw [e1, List.filter_append, List.map_append, List.filter_cons, if_neg (by rw [← ek]; decide)]
        simp
    · subst ha
      rw [List.take_length]
      exact p)
theorem ev_lc_map {vs : List Nat} (hi : EvI K B wi Γ fun ds => ds.length < sizeLine ∧ ∃ f : D → D,
    (∀ d, d ∈ ds → EvG K B g vs (wipeG Γ vs) d fun Γ' => Ev K B te Γ' fun e => e = f d) ∧ P (.lst (ds.map f))) : Ev K B (tLc wi g tYes te vs) Γ P :=
  ev_lc_filter (hi.mono fun ds ⟨hz, f, h, p⟩ => by
    refine ⟨hz, f, fun _ => true, fun d hd => (h d hd).mono fun Γ' p => et_yes ⟨rfl, fun _ => p⟩, ?_⟩
    rw [List.filter_eq_self.mpr fun _ _ => rfl]
    exact p)
end
theorem lenD_str {z : Str} (h : z.length ≤ 1000) : lenD (.str z) = some z.length := by
  show (if z.length ≤ sizeLine then some z.length else none) = _
  rw [if_pos (by rw [sizeLine_eq]; omega)]
theorem charsD_len (z : Str) : (charsD z).length = z.length := by unfold charsD; rw [List.length_map, Array.length_toList]; rfl
theorem mem_charsD {z : Str} {d : D} (h : d ∈ charsD z) : ∃ c, c ∈ z.cps.toList ∧ d = .str ⟨#[c]⟩ := by
  unfold charsD at h
  obtain ⟨c, hc, e⟩ := List.mem_map.mp h
  exact ⟨c, hc, e.symm⟩
/-- o[i] where the written part must not hang on the frame (within a comprehension) -/
theorem ix_seqK {X : Cx} (K : PySem.W.Frag) (hK : X.K = K := by rfl) : IxR X (rIx K) := by
  subst hK
  exact ix_seq
theorem op_catTK {X : Cx} (K : PySem.W.Frag) (hK : X.K = K := by rfl) : OpR X (binaryOp .Add) (rCatT K) := by
  subst hK
  exact op_catT
end DL

set_option maxHeartbeats 4000000
/-! Exceptions of classes of the text as values: fields stored in __init__, read, asked by isinstance; over any of the built-in bases. -/
namespace XE
open PySem PySem.W PySem.Calls PyProof.Rows
section
open Builtin Builtin.ObjectAttr
variable {prog : Program} {w : World} {A : Around} {E : Value → Shared → Prop} {R : Result → Shared → Prop} {hp : Heap} {g : Array GenState} {dr : Drawn} {tk : Nat} {os : OsState} {K : PySem.W.Frag} {B : String} {bmB : List Value} {x C : Addr} {fv : Array Value} {nm : Str} {tn : Tok} {val : Value}
theorem taker0 (h : PySem.W.findIn K (.ref C) nm = some none) : PySem.W.takerIn K C nm = some none := by
  unfold PySem.W.takerIn
  rw [h]; rfl
/-- the first field of all -/
theorem osaN (SF : StoreFacts B bmB "object.__setattr__" "object") (X : K.In hp) (hx : hp.get? x = some { cls := .ref C, data := .fields fv }) (ov : PySem.W.excOver K C bmB = true) (hd : PySem.W.hasDictIn K C = true) (hno : PySem.W.findIn K (.ref C) nm = some none)
    (fin : ∀ h2 t2 dx, (∀ b o, b ≠ x → hp.get? b = some o → h2.get? b = some o) → hp.objs.size ≤ dx → dx ≠ x → h2.get? x = some { cls := .ref C, dict := some dx, data := .fields fv } → h2.Ns1 dx (fun y => if y = nm then some val else none) →
      R (.ok (.ret .none)) ⟨h2, g, dr, t2, os⟩) :
    codeAny (model prog w) A (.call (.builtin "object.__setattr__") ⟨[.ref x, .str nm tn, val], []⟩) R ⟨hp, g, dr, tk, os⟩ := by
  obtain ⟨cd, hcd, hdd⟩ := any_some hd
  have look : PySem.W.Looks (model prog w) hp (classData C) cd := PySem.W.looks_clsIn X hcd
  have nx : x ≠ hp.objs.size := Nat.ne_of_lt (Heap.lt_size hx)
  refine PySem.W.osa_openX SF X (ox := { cls := .ref C, data := .fields fv }) (od := none) ⟨hx, rfl, rfl, trivial⟩ ov (taker0 hno) fun flag => ?_
  dsimp only
  obtain ⟨n1, n2, n3, n4, n5, n6, n7, n8, n9, n10, n11⟩ := cd
  dsimp only at hdd
  subst hdd
  unfold storeInOwnDict ownDictForStores
  repeat first
    | with_reducible refine HandSPX.store_in_new ?_ ?_
    | with_reducible refine wpAny_loadPart_at hx ?_
    | with_reducible refine look.at ?_
    | wp_step
  · have q := (Heap.get?_update_ne (hp.push { cls := .type "dict", data := .dict #[] }) hp.objs.size x (fun o => { o with dict := some hp.objs.size }) nx.symm).trans (Heap.get?_push_at rfl rfl)
    exact ⟨_, #[], _, q, rfl, fun e he => absurd he (by simp), fun _ => rfl⟩
  · intro h2 t2 hn hs
    have old : (hp.push { cls := .type "dict", data := .dict #[] }).get? x = some { cls := .ref C, data := .fields fv } := Heap.get?_push_of_some _ hx
    refine fin h2 t2 hp.objs.size (fun b o hb ho => ?_) (Nat.le_refl _) nx.symm ?_ hn
    · have b1 := Nat.ne_of_lt (Heap.lt_size ho)
      rw [hs.2 b b1, Heap.get?_update_ne _ _ _ _ hb]
      exact Heap.get?_push_of_some _ ho
    · rw [hs.2 x nx]
      exact Heap.get?_update_self _ old rfl
/-- a further field -/
theorem osaO {m0 : Str → Option Value} {nl : List Str} {dx : Addr} (SF : StoreFacts B bmB "object.__setattr__" "object") (X : K.In hp) (hx : hp.get? x = some { cls := .ref C, dict := some dx, data := .fields fv }) (ns : hp.Ns1 dx m0) (wi : Within m0 nl) (few : nl.length ≤ 1000)
    (ov : PySem.W.excOver K C bmB = true) (hd : PySem.W.hasDictIn K C = true) (hno : PySem.W.findIn K (.ref C) nm = some none)
    (fin : ∀ h2 t2, (∀ b o, b ≠ dx → hp.get? b = some o → h2.get? b = some o) → h2.Ns1 dx (fun y => if y = nm then some val else m0 y) → R (.ok (.ret .none)) ⟨h2, g, dr, t2, os⟩) :
    codeAny (model prog w) A (.call (.builtin "object.__setattr__") ⟨[.ref x, .str nm tn, val], []⟩) R ⟨hp, g, dr, tk, os⟩ := by
  obtain ⟨cd, hcd, hdd⟩ := any_some hd
  obtain ⟨od, e1, e2, hod, _, _⟩ := ns.count wi
  have look : PySem.W.Looks (model prog w) hp (classData C) cd := PySem.W.looks_clsIn X hcd
  refine PySem.W.osa_openX SF X (ox := { cls := .ref C, dict := some dx, data := .fields fv }) (od := some od) ⟨hx, rfl, rfl, hod⟩ ov (taker0 hno) fun flag => ?_
  dsimp only
  obtain ⟨n1, n2, n3, n4, n5, n6, n7, n8, n9, n10, n11⟩ := cd
  dsimp only at hdd
  subst hdd
  unfold storeInOwnDict ownDictForStores
  repeat first
    | with_reducible refine OEX.store_in_old ns wi few ?_
    | with_reducible refine wpAny_loadPart_at hx ?_
    | with_reducible refine look.at ?_
    | wp_step
  intro h2 t2 hn hs
  exact fin h2 t2 (fun b o hb ho => by rw [hs.2 b hb]; exact ho) hn
end
end XE

set_option maxHeartbeats 4000000
namespace XE
open PySem PySem.Spec PyProof.Rows L2
/-- a class whose instances are exceptions and take the field f -/
structure XSt (K : PySem.W.Frag) (C : Addr) (f : Str) : Prop where
  over : ∃ B bmB, StoreFacts B bmB "object.__setattr__" "object" ∧ PySem.W.excOver K C bmB = true
  hd : PySem.W.hasDictIn K C = true
  sa : PySem.W.findIn K (.ref C) "__setattr__" = some (some (.builtin "object.__setattr__"))
  no : PySem.W.findIn K (.ref C) f = some none
section
variable {X : Cx} {pins : List (Addr × Obj)} {σ : L2.St} {H : Hp} {s : Shared} {a C dx : Addr} {f : Str} {y : V} {u : Value} {fs : List (Str × V)} {Q : Unit → Shared → Prop} {E : Value → Shared → Prop} {A : Around}
/-- the state behind the first store: the dict is new, the exception knows it -/
theorem inv_first {hp h2 : Heap} {g : Array GenState} {d : Drawn} {t t2 : Nat} {os : OsState} {t1 : Addr} {mA : Str → Option Value} (I : Inv X pins σ H ⟨hp, g, d, t, os⟩) (ea : H a = some (exo a C none))
    (ho : hp.get? a = some ({ cls := .ref C, data := .fields #[.ref t1, .none, .none, .none, .bool false, .none] } : Obj))
    (k : ∀ b o, b ≠ a → hp.get? b = some o → h2.get? b = some o) (dn : hp.objs.size ≤ dx) (dne : dx ≠ a) (hx : h2.get? a = some ({ cls := .ref C, dict := some dx, data := .fields #[.ref t1, .none, .none, .none, .bool false, .none] } : Obj))
    (hn : h2.Ns1 dx mA) (rel : ∀ z, RelO (fs.lookup z) (mA z)) : Inv X pins σ (upd (upd H dx (exd dx fs)) a (exo a C (some dx))) ⟨h2, g, d, t2, os⟩ := by
  have at1 : (h2.update a fun _ => ({ cls := .ref C, data := .fields #[.ref t1, .none, .none, .none, .bool false, .none] } : Obj)).get? a = some ({ cls := .ref C, data := .fields #[.ref t1, .none, .none, .none, .bool false, .none] } : Obj) := Heap.get?_update_self _ hx rfl
  have ne1 : ∀ b, b ≠ a → (h2.update a fun _ => ({ cls := .ref C, data := .fields #[.ref t1, .none, .none, .none, .bool false, .none] } : Obj)).get? b = h2.get? b := fun b hb => Heap.get?_update_other _ _ (Ne.symm hb)
  generalize (h2.update a fun _ => ({ cls := .ref C, data := .fields #[.ref t1, .none, .none, .none, .bool false, .none] } : Obj)) = h1 at at1 ne1
  have I1 : Inv X pins σ (upd H dx (exd dx fs)) ⟨h1, g, d, t, os⟩ := I.laid (t' := t) (a := dx) (h' := h1) (fun b o q => by
    by_cases hb : b = a
    · subst hb
      rw [ho] at q
      rw [at1]; exact q
    · rw [ne1 b hb]
      exact k b o hb q) dn (exd_ok (hn.at fun o q => (ne1 dx dne).trans q) rel)
  have e1 : upd H dx (exd dx fs) a = some (exo a C none) := by rw [upd_ne (Ne.symm dne)]; exact ea
  exact I1.write (t' := t2) (x := a) (e := a) (h' := h2) (by rw [e1]; exact True.intro) (.inl rfl) (fun b o hb q => by rw [← ne1 b hb]; exact q) ⟨_, hx⟩ (exo_ok hx)
theorem xst_new (T : XSt X.K C f) (I : Inv X pins σ H s) (e : H a = some (exo a C none)) (ry : RelV y u)
    (h : ∀ dx s', H dx = none → dx ≠ a → Inv X pins σ (upd (upd H dx (exd dx [(f, y)])) a (exo a C (some dx))) s' → Q () s') : wpAny (model X.prog X.w) A (setAttr (.ref a) f u) Q E s := by
  obtain ⟨B, bmB, SF, ov⟩ := T.over
  obtain ⟨t1, ho⟩ := exo_at I.hok e
  obtain ⟨hp, g, d, t, os⟩ := s
  refine PySem.W.set_plain I.kIn (ox := { cls := .ref C, dict := none, data := .fields #[.ref t1, .none, .none, .none, .bool false, .none] }) (od := none) ⟨ho, rfl, rfl, trivial⟩ T.sa ?_
  exact osaN SF I.kIn ho ov T.hd T.no fun h2 t2 dx k dn dne hx hn => h dx _ (I.hok.fresh dn) dne (inv_first I e ho k dn dne hx hn (relO_put (fs := []) ry fun _ => True.intro))
theorem xst_old (T : XSt X.K C f) (I : Inv X pins σ H s) (e : H a = some (exo a C (some dx))) (ed : H dx = some (exd dx fs)) (hl : fs.length ≤ 900) (ry : RelV y u)
    (h : ∀ s', Inv X pins σ (upd H dx (exd dx ((f, y) :: fs))) s' → Q () s') : wpAny (model X.prog X.w) A (setAttr (.ref a) f u) Q E s := by
  obtain ⟨B, bmB, SF, ov⟩ := T.over
  obtain ⟨t1, ho⟩ := exo_at I.hok e
  obtain ⟨mA, hns, rel⟩ := exd_at I.hok ed
  have wi := within_of rel
  obtain ⟨hp, g, d, t, os⟩ := s
  obtain ⟨oD, _, _, hoD, _, _⟩ := hns.count wi
  refine PySem.W.set_plain I.kIn (ox := { cls := .ref C, dict := some dx, data := .fields #[.ref t1, .none, .none, .none, .bool false, .none] }) (od := some oD) ⟨ho, rfl, rfl, hoD⟩ T.sa ?_
  refine osaO SF I.kIn ho hns wi (by rw [List.length_map]; omega) ov T.hd T.no fun h2 t2 k hn => ?_
  obtain ⟨o2, _, _, e2, _⟩ := id hn
  exact h _ (I.write (t' := t2) (x := dx) (e := dx) (h' := h2) (by rw [ed]; exact True.intro) (.inl rfl) k ⟨o2, e2⟩ (exd_ok hn (relO_put ry rel)))
end
/-- self.f = e -/
def tXst (K : PySem.W.Frag) (f : Str) (to te : TE) : TS := fun D σ H => te σ H fun y H1 => to σ H1 fun x H2 => ∃ a C : Addr, x = .ref a ∧ XSt K C f ∧
  ((H2 a = some (exo a C none) ∧ ∀ dx, H2 dx = none → dx ≠ a → D.nx σ (upd (upd H2 dx (exd dx [(f, y)])) a (exo a C (some dx)))) ∨
    ∃ (dx : Addr) (fs : List (Str × V)), H2 a = some (exo a C (some dx)) ∧ H2 dx = some (exd dx fs) ∧ fs.length ≤ 900 ∧ D.nx σ (upd H2 dx (exd dx ((f, y) :: fs))))
/-- what is asked of a class whose __init__ is called by the class's name -/
structure XCal (K : PySem.W.Frag) (C fI : Addr) : Prop where
  sp : PySem.W.specialIn K (.ref C) "__getattribute__" = some (some (.builtin "type.__getattribute__"))
  rd : PySem.W.readsIn K C (.type "type") = true
  at_ : PySem.W.findCls K (.ref C) (.type "type") "__init__" = some (.val (.ref fI))
/-- C(e, ..): a class of exceptions with an __init__ of the text's -/
structure XMk (K : PySem.W.Frag) (C fI : Addr) : Prop where
  base : ∃ B newId initId bmB, ExcBaseFacts B newId initId bmB ∧ PySem.W.excInitIn K C bmB newId = true
  ini : PySem.W.findIn K (.ref C) "__init__" = some (some (.ref fI))
  fn : PySem.W.typeIn K (.ref fI) = some (.type "function")
  kp : PySem.W.keepIn K (.ref C) = true
/-- e.f and isinstance(e, T) -/
structure XRd (K : PySem.W.Frag) (C : Addr) : Prop where
  ga : PySem.W.findIn K (.ref C) "__getattribute__" = some (some (.builtin "BaseException.__getattribute__"))
  gg : PySem.W.findIn K (.ref C) "__getattr__" = some none
  exC : PySem.W.subIn K (.ref C) (.type "BaseException") = some true
  hd : PySem.W.hasDictIn K C = true
  ha : PySem.W.findIn K (.ref C) "__class__" = some (some (.builtin "object.__class__"))
  hn : PySem.W.specialIn K (.builtin "object.__class__") "__get__" = some (some (.builtin "getset_descriptor.__get__"))
  ht : PySem.W.takesIn K (.builtin "object.__class__") = some true
  hm : PySem.W.mroIn K C (.type "object") = some true
def tMkx (C : Addr) (sp : Sp) (E : XK) (ta : TA) : TE := fun σ H Q => ta σ H fun vs H1 => vs.length ≤ 1000 ∧ ∀ a, H1 a = none → sp (.ref a :: vs) (upd H1 a (exo a C none)) (fun v H2 => v = .non ∧ Q (.ref a) H2) E
def tXfd (K : PySem.W.Frag) (f : Str) (te : TE) : TE := fun σ H Q => te σ H fun x H1 => ∃ (a C dx : Addr) (fs : List (Str × V)) (v : V), x = .ref a ∧ H1 a = some (exo a C (some dx)) ∧ H1 dx = some (exd dx fs) ∧ XRd K C ∧ PySem.W.findIn K (.ref C) f = some none ∧ fs.lookup f = some v ∧ Q v H1
def rIsx (K : PySem.W.Frag) : List V → Hp → VK → Prop := fun xs H Q => ∃ (a C dx : Addr) (fs : List (Str × V)) (c : V) (cv : Value) (b : Bool), xs = [.ref a, c] ∧ H a = some (exo a C (some dx)) ∧ H dx = some (exd dx fs) ∧ XRd K C ∧ (∀ u, RelV c u → u = cv) ∧ PySem.W.kitOne K (.ref C) cv = some b ∧ Q (.bl b) H
section
variable {X : Cx} {CX : CXT} {k : Nat} {C fI : Addr} {fd : FuncData} {ps : List Str} {sp : Sp} {E : XK} {o e : Expr} {es : List Expr} {to te : TE} {ta : TA} {f x : Str} {p p' p1 p2 pos : Pos}
theorem ps_xst (ho : PE X o to) (he : PE X e te) (hs : swapsWith e (some (.Attribute o f p')) pos.line X.env = pure false := by rfl) : PS X (.Assign [.Attribute o f p'] e pos) (tXst X.K f to te) := by
  refine ⟨fun pins s σ H D I h => ?_⟩
  refine plainObj_wpAny_Assign_Attribute (thn (he.run pins s σ H _ I h) fun vv s1 ⟨y, H1, I1, r1, q1⟩ => thn (ho.run pins s1 σ H1 _ I1 q1) fun uu s2 ⟨z, H2, I2, r2, a, C, ez, T, q⟩ => ?_) hs
  subst ez
  obtain rfl : uu = Value.ref a := r2
  rcases q with ⟨ea, q⟩ | ⟨dx, fs, ea, ed, hl, q⟩
  · exact xst_new T I2 ea r1 fun dx s' n ne J => ⟨σ, _, J, q dx n ne⟩
  · exact xst_old T I2 ea ed hl r1 fun s' J => ⟨σ, _, J, q⟩
theorem pe_xinit {pl : Sem Bool} (T : XCal X.K C fI) (F : FnOk X.prog X.w X.K X.mg X.base CX k fI fd ps sp) (hr : Room k X.A) (hk : PySem.W.keepIn X.K (.ref fI) = true) (hb : Binds X.K fd ps []) (hx : Passes CX X E) (hg : Gl X x) (hm : X.mg x = some (.ref C)) (ha : PA X (e :: es) ta)
    (hdb : (x == ("__debug__" : Str)) = false := by decide)
    (hc : eval (.Call (.Attribute (.Name x p1) "__init__" p2) (e :: es) [] pos) X.env = (do
      let ov ← eval (.Name x p1) X.env
      standAt p2.atName
      let (fv, first) ← holding [ov] (getMethod ov "__init__" pl)
      callWith pos fv first (backTo pos (starEach (e :: es) X.env)) (backToKw pos (keywordEach [] X.env))) := by rfl)
    (he : starEach (e :: es) X.env = (false, eval e X.env) :: starEach es X.env := by rfl) (hpl : (backTo pos (starEach es X.env)).any (·.1) = false := by rfl) :
    PE X (.Call (.Attribute (.Name x p1) "__init__" p2) (e :: es) [] pos) (tCall sp [] E ta) := by
  refine ⟨fun pins s σ H Q I h => ?_⟩
  refine PySem.W.methodCall_KW (ld_glob I hg hm ?_ hdb) hc
  refine PySem.W.method_cls I.kIn T.sp (PySem.W.cls_value I.kIn T.rd T.at_ rfl ?_)
  have I0 := I.tok (s.toks + 1)
  refine PySem.W.callWith_K (h₀ := X.base) I0.ok.mod.kin hk (thn (ha.run pos pins _ σ H _ I0 h) fun us s1 ⟨vs, H1, I1, r, q⟩ => ⟨I1.kIn, ?_⟩) he hpl
  exact run_fn F hr hb .nil hx I1 r q
theorem run_mkx {pins : List (Addr × Obj)} {σ : L2.St} {H1 : Hp} {s : Shared} {Q : VK} {us : List Value} {vs : List V} (T : XMk X.K C fI) (F : FnOk X.prog X.w X.K X.mg X.base CX k fI fd ps sp) (hr : Room (k + 1) X.A) (hb : Binds X.K fd ps []) (hx : Passes CX X E)
    (I1 : Inv X pins σ H1 s) (r1 : Vals vs us) (hz : vs.length ≤ 1000) (h : ∀ a, H1 a = none → sp (.ref a :: vs) (upd H1 a (exo a C none)) (fun v H2 => v = .non ∧ Q (.ref a) H2) E) :
    wpAny (model X.prog X.w) X.A (call (.ref C) us) (EP X pins σ Q) X.xe s := by
  obtain ⟨B, newId, initId, bmB, FB, ei⟩ := T.base
  obtain ⟨nm, N, qn, bs, bm, hdct, sn, sub, ab, col, dd, k0, k1, k2, k3, k5, hC, hT⟩ := PySem.W.excInit_of I1.kIn ei
  obtain ⟨hp, g, dr, tk, os⟩ := s
  have big : hp.objs.size ≤ hp.objs.size + 1 := Nat.le_succ _
  have hq := h (hp.objs.size + 1) (I1.hok.fresh big)
  have get2 : ((hp.push (PySem.W.kdv_tup us)).push (PySem.HandSPX.excO C hp.objs.size)).get? (hp.objs.size + 1) = some (PySem.HandSPX.excO C hp.objs.size) := by heap_get
  have I2 : Inv X pins σ (upd H1 (hp.objs.size + 1) (exo (hp.objs.size + 1) C none)) ⟨(hp.push (PySem.W.kdv_tup us)).push (PySem.HandSPX.excO C hp.objs.size), g, dr, tk, os⟩ :=
    I1.laid (t' := tk) (a := hp.objs.size + 1) (fun b o q => Heap.get?_push_of_some _ (Heap.get?_push_of_some _ q)) big (exo_ok get2)
  have r2 : Vals (V.ref (hp.objs.size + 1) :: vs) (Value.ref (hp.objs.size + 1) :: us) := .cons rfl r1
  have len2 : (Value.ref (hp.objs.size + 1) :: us ++ []).length = ps.length := by
    rw [List.append_nil, ← r2.length]
    exact F.len _ _ _ _ hq
  have few : us.length ≤ sizeLine := by
    rw [← Paired.length r1, sizeLine_eq]
    omega
  have bd := hb _ (Value.ref (hp.objs.size + 1) :: us) I2.kIn len2
  rw [List.append_nil] at bd
  refine wpAny_call (PySem.HandSPX.call_own FB hT hC (PySem.W.looks_findIn I1.kIn T.ini) (fun self => PySem.W.bind_fn I1.kIn self T.fn) few
    (codeAny_mono (F.run _ X.stack _ _ ⟨Value.ref (hp.objs.size + 1) :: us, []⟩ (Value.ref (hp.objs.size + 1) :: us) _ _ E (hr.make C us []) (I2.env0.make C us []) bd r2 hq) fun rr s' z => ?_))
  cases rr with
  | error er => exact hx pins σ _ _ er s' I2 z
  | ok fl =>
    cases fl with
    | next => exact False.elim z
    | brk => exact False.elim z
    | cont => exact False.elim z
    | ret u =>
      obtain ⟨v, H2, J, rv, ev, q⟩ := I2.after z
      subst ev
      exact ⟨rv, ⟨V.ref (hp.objs.size + 1), H2, J, rfl, q⟩⟩
theorem pe_mkx (T : XMk X.K C fI) (F : FnOk X.prog X.w X.K X.mg X.base CX k fI fd ps sp) (hr : Room (k + 1) X.A) (hg : Gl X x) (hm : X.mg x = some (.ref C)) (hb : Binds X.K fd ps []) (hx : Passes CX X E) (ha : PA X (e :: es) ta)
    (hdb : (x == ("__debug__" : Str)) = false := by decide) (he : starEach (e :: es) X.env = (false, eval e X.env) :: starEach es X.env := by rfl) (hpl : (backTo pos (starEach es X.env)).any (·.1) = false := by rfl) :
    PE X (.Call (.Name x p) (e :: es) [] pos) (tMkx C sp E ta) :=
  ⟨fun pins s σ H Q I h => wpAny_Call_Name_kw (ld_glob I hg hm (PySem.W.callWith_K (h₀ := X.base) I.ok.mod.kin T.kp
    (thn (ha.run pos pins s σ H _ I h) fun us s1 ⟨vs, H1, I1, r, hz, q⟩ => ⟨I1.kIn, run_mkx T F hr hb hx I1 r hz q⟩) he hpl) hdb)⟩
theorem pe_mkx0 (T : XMk X.K C fI) (F : FnOk X.prog X.w X.K X.mg X.base CX k fI fd ps sp) (hr : Room (k + 1) X.A) (hg : Gl X x) (hm : X.mg x = some (.ref C)) (hb : Binds X.K fd ps []) (hx : Passes CX X E) (hdb : (x == ("__debug__" : Str)) = false := by decide) :
    PE X (.Call (.Name x p) [] [] pos) (tMkx C sp E tNil) :=
  ⟨fun pins s σ H Q I h => wpAny_Call_Name_kw (ld_glob I hg hm (PySem.W.callWith_K0 I.kIn T.kp (run_mkx (us := []) T F hr hb hx I .nil h.1 h.2)) hdb)⟩
theorem inst_of {pins : List (Addr × Obj)} {σ : L2.St} {H : Hp} {s : Shared} {a dx : Addr} {fs : List (Str × V)} (I : Inv X pins σ H s) (ea : H a = some (exo a C (some dx))) (ed : H dx = some (exd dx fs)) :
    ∃ (ox od : Obj) (mA : Str → Option Value), PySem.W.InstAt s.heap a ox C (some od) ∧ (∀ z, PySem.W.lookIn z od = some (mA z)) ∧ ∀ z, RelO (fs.lookup z) (mA z) := by
  obtain ⟨t1, ho⟩ := exo_at I.hok ea
  obtain ⟨mA, hns, rel⟩ := exd_at I.hok ed
  obtain ⟨od, hod, hl⟩ := lookIn_ns hns
  exact ⟨_, od, mA, ⟨ho, rfl, rfl, hod⟩, hl, rel⟩
theorem pe_xfd (he : PE X e te) (hb : attributeBase e f X.env (eval e X.env) = eval e X.env := by rfl) : PE X (.Attribute e f pos) (tXfd X.K f te) := by
  refine ⟨fun pins s σ H Q I h => ?_⟩
  refine attr_of hb (thn (he.run pins s σ H _ I h) fun u s1 ⟨z, H1, I1, rz, a, C, dx, fs, v, ez, ea, ed, T, hno, l, q⟩ => ?_)
  subst ez
  obtain rfl : u = Value.ref a := rz
  obtain ⟨ox, od, mA, J, hl, rel⟩ := inst_of I1 ea ed
  obtain ⟨u, hu, ru⟩ := RelO.some_of (v := v) (o := mA f) (by rw [← l]; exact rel f)
  have fo := PySem.W.findObj_own (od := od) (v := u) T.hd hno rfl (by rw [hl, hu])
  exact HandSPX.exc_get I1.kIn J T.ga T.gg T.exC fo (handed_of ru) ⟨v, H1, I1.tok _, ru, q⟩
theorem call_isx : CallR X (.builtin "isinstance") (rIsx X.K) := by
  intro pins s σ H xs us Q I r h
  obtain ⟨a, C, dx, fs, c, cv, b, rfl, ea, ed, T, hc, e, q⟩ := h
  obtain ⟨u1, u2, rfl, r1, r2⟩ := vals2 r
  obtain rfl : u1 = Value.ref a := r1
  have e2 := hc _ r2
  subst e2
  obtain ⟨ox, od, mA, J, _, _⟩ := inst_of I ea ed
  exact PySem.W.kia_one (PySem.W.kitx_exc (by obtain ⟨cd, hc, _⟩ := PySem.W.any_some T.hd; rw [hc]; rfl) T.ga T.gg T.exC T.ha T.hn T.ht T.hm) I.kIn J e (fun z => nomatch z) fun tk => ⟨.bl b, H, I.tok tk, rfl, q⟩
end
end XE

set_option maxHeartbeats 2000000
/-! The same over data: an exception is a datum with named fields, newest first. -/
namespace DL
open PySem PySem.Spec PyProof.Rows L2 RZ XE
theorem exo_lst {e C : Addr} {d : Option Addr} {xs : List V} : exo e C d ≠ .lst xs := fun z => by
  have z' : HO.ext _ = HO.lst xs := z
  cases z'
theorem exd_lst {e : Addr} {fs : List (Str × V)} {xs : List V} : exd e fs ≠ .lst xs := fun z => by
  have z' : HO.ext _ = HO.lst xs := z
  cases z'
theorem heap_at (p : Addr) (o : Obj) (nf : o.isFreed = false) : ∃ h : Heap, h.get? p = some o := by
  refine ⟨{ objs := Array.replicate (p + 1) o }, ?_⟩
  have e : (Array.replicate (p + 1) o)[p]? = some o := by simp
  unfold Heap.get?
  dsimp only
  rw [e]
  obtain ⟨c, d, dt, sl⟩ := o
  cases dt <;> first | rfl | (cases nf)
theorem code_no {p : Addr} {q : Str} {φ : Heap → Prop} (hφ : ∀ (h : Heap) (o : Obj) (vs : Array Value), h.get? p = some o → o.data = .fields vs → vs.size = 2 → ¬ φ h) : HO.ext φ ≠ LamX.CodeO p q := fun z => by
  unfold LamX.CodeO at z
  have z' := HO.ext.inj z
  obtain ⟨h, e⟩ := heap_at p { cls := .none, data := .fields #[.none, .str q 0] } rfl
  refine hφ h _ _ e rfl rfl ?_
  rw [z']
  exact ⟨_, _, 0, e, rfl, rfl⟩
theorem exo_code {a C : Addr} {d : Option Addr} {q : Str} : exo a C d ≠ LamX.CodeO a q := code_no fun h o vs e d2 sz ⟨t1, e2⟩ => by
  rw [e] at e2
  cases e2
  cases d2
  cases sz
theorem exd_code {dx : Addr} {fs : List (Str × V)} {q : Str} : exd dx fs ≠ LamX.CodeO dx q := code_no fun h o vs e d2 sz ⟨mA, ⟨o2, es, ep, e2, hx, _⟩, _⟩ => by
  rw [e] at e2
  cases e2
  have hd := hx
  first
    | (rw [d2] at hd; cases hd; done)
    | exact absurd (d2.symm.trans hd.1) (fun z => by cases z)
    | exact absurd (d2.symm.trans hd.2) (fun z => by cases z)
/-- nothing but the box, the table and the object at a has changed -/
structure Rx (K : PySem.W.Frag) (B : Bx) (H H' : Hp) (a : Addr) : Prop where
  box : BoxOk K B H'
  fr : ∀ b o, H b = some o → B.No b → b ≠ a → H' b = some o
  tb : TbOk B H → TbOk B H'
theorem R.x {K : PySem.W.Frag} {B : Bx} {H H1 : Hp} {a : Addr} (r : R K B H H1) : Rx K B H H1 a := ⟨r.box, fun b o e n _ => r.two b o e n, r.tb⟩
theorem Rx.trans {K : PySem.W.Frag} {B : Bx} {H H1 H2 : Hp} {a : Addr} (x : Rx K B H H1 a) (y : Rx K B H1 H2 a) : Rx K B H H2 a := ⟨y.box, fun b o e n m => y.fr b o (x.fr b o e n m) n m, fun t => y.tb (x.tb t)⟩
theorem Rx.there {K : PySem.W.Frag} {B : Bx} {M : List Addr} {H H1 : Hp} {a b : Addr} {o : HO} (x : Rx K B H H1 a) (g : Good K B M H) (ha : H1 a = some o) (hb : b ∈ M) (na : NoCo a o := by refine ⟨fun q z => ?_, fun q z => ?_⟩ <;> (try unfold LamX.CodeO at z) <;> cases z) : H1 b ≠ none ∧ NoCode H1 b := by
  have of : ∀ {u : HO}, H1 b = some u → (∀ φ, u ≠ .ext φ) → (∀ xs, u ≠ .tup xs) → H1 b ≠ none ∧ NoCode H1 b := fun e n nt => ⟨by rw [e]; exact fun z => (by cases z), NoCode.of e n nt⟩
  by_cases e1 : b = B.b
  · obtain ⟨_, _, _, _, _, h0, _⟩ := x.box
    exact of (by rw [e1]; exact h0) (fun _ z => by cases z) fun _ z => by cases z
  · by_cases e2 : b = B.t
    · rcases x.tb g.tb with z | ⟨ps, z, _⟩
      · exact absurd (e2.trans z) e1
      · exact of (by rw [e2]; exact z) (fun _ z => by cases z) fun _ z => by cases z
    · by_cases e3 : b = a
      · rw [e3]
        exact ⟨by rw [ha]; exact fun z => (by cases z), fun q z => na.1 q (by rw [ha] at z; exact Option.some.inj z), fun q z => na.2 q (by rw [ha] at z; exact Option.some.inj z)⟩
      · cases e : H b with
        | none => exact absurd e (g.there b hb).1
        | some o =>
          have e4 := x.fr b o e ⟨e1, e2⟩ e3
          exact ⟨by rw [e4]; exact fun z => (by cases z), fun q z => (g.there b hb).2.1 q (by rw [e]; rw [e4] at z; exact z), fun q z => (g.there b hb).2.2 q (by rw [e]; rw [e4] at z; exact z)⟩
theorem R.none {K : PySem.W.Frag} {B : Bx} {M : List Addr} {H H1 : Hp} {a : Addr} (r : R K B H H1) (g : Good K B M H) (h : H1 a = .none) : H a = .none := by
  cases e : H a with
  | none => rfl
  | some o => rw [r.two a o e ((g.r r).fresh_b h)] at h; cases h
theorem Rx.new {K : PySem.W.Frag} {B : Bx} {H H1 : Hp} {a : Addr} (x : Rx K B H H1 a) (h : H a = none) : R K B H H1 := ⟨x.box, fun b o e n => x.fr b o e n (ne_of_none e h), x.tb⟩
section
variable {K : PySem.W.Frag} {B : Bx} {H : Hp} {a C dx : Addr} {d : Option Addr}
theorem Good.nb {M : List Addr} (g : Good K B M H) (ea : H a = some (exo a C d)) : B.No a ∧ a ≠ B.l := by
  have nl : ∀ xs, exo a C d ≠ .lst xs := fun xs => exo_lst
  refine ⟨g.noO ea nl fun ps z => ?_, ?_⟩
  · have z' : HO.ext _ = HO.tbl ps := z
    cases z'
  · obtain ⟨ns, i, r, m, c, h, n, hs, q⟩ := g.box
    exact fun z => by subst z; rw [hs] at ea; exact nl _ (Option.some.inj ea).symm
theorem Good.nd {M : List Addr} {fs : List (Str × V)} (g : Good K B M H) (ea : H dx = some (exd dx fs)) : B.No dx ∧ dx ≠ B.l := by
  have nl : ∀ xs, exd dx fs ≠ .lst xs := fun xs => exd_lst
  refine ⟨g.noO ea nl fun ps z => ?_, ?_⟩
  · have z' : HO.ext _ = HO.tbl ps := z
    cases z'
  · obtain ⟨ns, i, r, m, c, h, n, hs, q⟩ := g.box
    exact fun z => by subst z; rw [hs] at ea; exact nl _ (Option.some.inj ea).symm
end
/-- the promise of an __init__: F B ds P, the fields' names ns, their data -/
def SpX (K : PySem.W.Frag) (n : Nat) (ns : List Str) (F : Bx → List D → (List D → Prop) → Prop) : Sp := fun vs H Q _ => ∃ (B : Bx) (M : List Addr) (a C : Addr) (us : List V) (ds : List D) (P : List D → Prop), vs = .ref a :: us ∧ us.length = n ∧
  Good K B M H ∧ a ∈ M ∧ B.H0 a = none ∧ H a = some (exo a C none) ∧ (∀ f, f ∈ ns → XSt K C f) ∧ DenAll K (hid M H) ds us ∧ F B ds P ∧
  ∀ H' dx ws es, H dx = none → Rx K B H H' a → H' a = some (exo a C (some dx)) → H' dx = some (exd dx (ns.zip ws)) → ns.length = ws.length → DenAll K (hid (dx :: M) H') es ws → P es → Q .non H'
structure XS (K : PySem.W.Frag) (B : Bx) (M : List Addr) (H : Hp) (a C dx : Addr) (ns : List Str) (ds : List D) : Prop where
  good : Good K B M H
  ia : a ∈ M
  id : dx ∈ M
  za : B.H0 a = none
  zd : B.H0 dx = none
  ne : dx ≠ a
  ea : H a = some (exo a C (some dx))
  ed : ∃ ws, H dx = some (exd dx (ns.zip ws)) ∧ ns.length = ws.length ∧ DenAll K (hid M H) ds ws
def Rn1 (K : PySem.W.Frag) (B : Bx) (ts : TS) (a C : Addr) (Γ : Gam) (ns : List Str) (ds : List D) (P : Gam → List Str → List D → Prop) : Prop := ∀ (M : List Addr) (σ : L2.St) (H : Hp) (E : Ends) (dx : Addr), XS K B M H a C dx ns ds → EnvOk K M H σ Γ →
  (∀ σ' H' Γ' ns' ds', Rx K B H H' dx → XS K B M H' a C dx ns' ds' → EnvOk K M H' σ' Γ' → P Γ' ns' ds' → E.nx σ' H') → ts E σ H
def Rn0 (K : PySem.W.Frag) (B : Bx) (ts : TS) (a C : Addr) (Γ : Gam) (P : Gam → List Str → List D → Prop) : Prop := ∀ (M : List Addr) (σ : L2.St) (H : Hp) (E : Ends), Good K B M H → a ∈ M → B.H0 a = none → H a = some (exo a C none) → EnvOk K M H σ Γ →
  (∀ σ' H' Γ' ns' ds' dx, H dx = none → Rx K B H H' a → XS K B (dx :: M) H' a C dx ns' ds' → EnvOk K (dx :: M) H' σ' Γ' → P Γ' ns' ds' → E.nx σ' H') → ts E σ H
section
variable {K : PySem.W.Frag} {B : Bx} {M : List Addr} {H H1 : Hp} {Γ : Gam} {te : TE} {a C dx : Addr} {f : Str} {ns : List Str} {ds : List D} {P : Gam → List Str → List D → Prop} {t u : TS} {n : Nat}
theorem x1_seq (h : Rn1 K B t a C Γ ns ds fun Γ' ns' ds' => Rn1 K B u a C Γ' ns' ds' P) : Rn1 K B (tSeq t u) a C Γ ns ds P := fun M σ H E dx z x q =>
  h M σ H { E with nx := u E } dx z x fun σ' H' Γ' ns' ds' k z' x' p => p M σ' H' E dx z' x' fun σ2 H2 Γ2 ns2 ds2 k2 z2 x2 p2 => q σ2 H2 Γ2 ns2 ds2 (k.trans k2) z2 x2 p2
theorem x0_seq (h : Rn0 K B t a C Γ fun Γ' ns' ds' => Rn1 K B u a C Γ' ns' ds' P) : Rn0 K B (tSeq t u) a C Γ P := fun M σ H E g ia za ea x q =>
  h M σ H { E with nx := u E } g ia za ea x fun σ' H' Γ' ns' ds' dx n0 k z' x' p => p (dx :: M) σ' H' E dx z' x' fun σ2 H2 Γ2 ns2 ds2 k2 z2 x2 p2 =>
    q σ2 H2 Γ2 ns2 ds2 dx n0 ⟨k2.box, fun b o e n1 n2 => k2.fr b o (k.fr b o e n1 n2) n1 (ne_of_none e n0), fun t => k2.tb (k.tb t)⟩ z2 x2 p2
theorem EnvOk.sub {σ : L2.St} {M' : List Addr} (x : EnvOk K M H σ Γ) (e : ∀ b o, hid M H b = some o → hid M' H1 b = some o) : EnvOk K M' H1 σ Γ :=
  ⟨x.len, fun i d q => let ⟨v, h1, h2⟩ := x.at_ i d q; ⟨v, h1, Den.sub e d v h2⟩⟩
/-- a further field -/
theorem x1_store {i : Nat} (hi : Γ[i]? = some (some (.obj a))) (T : XSt K C f) (hl : ns.length ≤ 900) (h : Ev K B te Γ fun y => P Γ (f :: ns) (y :: ds)) : Rn1 K B (tXst K f (tVar i) te) a C Γ ns ds P := fun M σ H E dx z x q => by
  refine h M σ H _ z.good x fun v H1 y r p dv => ?_
  obtain ⟨vi, h1, h2⟩ := x.at_ i _ hi
  cases h2
  obtain ⟨ws, ed, ln, dw⟩ := z.ed
  have g1 := z.good.r r
  obtain ⟨nb, nl⟩ := z.good.nd ed
  obtain ⟨nb', nl'⟩ := z.good.nb z.ea
  have ed1 := r.2 dx _ ed nb
  have ea1 := r.2 a _ z.ea nb'
  refine ⟨_, h1, a, C, rfl, T, .inr ⟨dx, ns.zip ws, ea1, ed1, ?_, ?_⟩⟩
  · rw [List.length_zip]
    omega
  · have hp : hid M (upd H1 dx (exd dx ((f, v) :: ns.zip ws))) = hid M H1 := hid_put z.id
    have nc : NoCode H1 dx := ⟨fun q z => by
      rw [ed1] at z
      exact exd_code (Option.some.inj z), fun q z => by
      rw [ed1] at z
      cases z⟩
    refine q σ _ Γ (f :: ns) (y :: ds) ⟨r.box.put nb.b nl, fun b o e n1 n2 => by rw [upd_ne n2]; exact r.2 b o e n1, fun t => (r.tb t).put nb.t nc⟩ ⟨g1.putOwn nb nl nc z.zd ⟨fun q => exd_code, fun q z => nomatch z⟩, z.ia, z.id, z.za, z.zd, z.ne, ?_, v :: ws, upd_same, ?_, ?_⟩ ?_ p
    · rw [upd_ne (Ne.symm z.ne)]; exact ea1
    · rw [List.length_cons, List.length_cons, ln]
    · rw [hp]
      exact .cons dv (z.good.dens r dw)
    · exact (x.r z.good r).sub fun b o e => by rw [hp]; exact e
/-- the first field -/
theorem x0_store {i : Nat} (hi : Γ[i]? = some (some (.obj a))) (T : XSt K C f) (h : Ev K B te Γ fun y => P Γ [f] [y]) : Rn0 K B (tXst K f (tVar i) te) a C Γ P := fun M σ H E g ia za ea x q => by
  refine h M σ H _ g x fun v H1 y r p dv => ?_
  obtain ⟨vi, h1, h2⟩ := x.at_ i _ hi
  cases h2
  have g1 := g.r r
  obtain ⟨nb, nl⟩ := g.nb ea
  have ea1 := r.2 a _ ea nb
  refine ⟨_, h1, a, C, rfl, T, .inl ⟨ea1, fun dx n0 ne => ?_⟩⟩
  have hn : H dx = none := r.none g n0
  have g2 := g1.own (o := exd dx [(f, v)]) n0 ⟨fun q => exd_code, fun q z => nomatch z⟩
  have ea2 : upd H1 dx (exd dx [(f, v)]) a = some (exo a C none) := by rw [upd_ne (Ne.symm ne)]; exact ea1
  have nc : NoCode (upd H1 dx (exd dx [(f, v)])) a := ⟨fun q z => by
    rw [ea2] at z
    exact exo_code (Option.some.inj z), fun q z => by
    rw [ea2] at z
    cases z⟩
  have su : ∀ b o, hid M H1 b = some o → hid (dx :: M) (upd (upd H1 dx (exd dx [(f, v)])) a (exo a C (some dx))) b = some o := fun b o e => by
    rw [hid_put (List.mem_cons_of_mem _ ia)]
    exact hid_own n0 b o e
  refine q σ _ Γ [f] [y] dx hn ⟨g2.box.put nb.b nl, fun b o e n1 n2 => ?_, fun t => ((g1.new n0).tb (r.tb t)).put nb.t nc⟩ ⟨g2.putOwn nb nl nc za ⟨fun q => exo_code, fun q z => nomatch z⟩, List.mem_cons_of_mem _ ia, List.mem_cons_self, za, g1.h0 n0, ne, upd_same, [v], ?_, rfl, ?_⟩ ?_ p
  · rw [upd_ne n2, upd_ne (ne_of_none (r.2 b o e n1) n0)]
    exact r.2 b o e n1
  · rw [upd_ne ne, upd_same]; rfl
  · exact .cons (Den.sub su y v dv) .nil
  · exact (x.r g r).sub su
/-- the base's __init__ -/
theorem x0_base {F : Bx → List D → (List D → Prop) → Prop} {i : Nat} {E0 : XK} {tr : TA} (hi : Γ[i]? = some (some (.obj a))) (T : ∀ f, f ∈ ns → XSt K C f) (h : EvA K B tr Γ fun ds => ds.length = n ∧ F B ds fun es => P Γ ns es) :
    Rn0 K B (tDrop (tCall (SpX K n ns F) [] E0 (tCons (tVar i) tr))) a C Γ P := fun M σ H E g ia za ea x q => by
  obtain ⟨vi, h1, h2⟩ := x.at_ i _ hi
  cases h2
  refine ⟨_, h1, ?_⟩
  refine h M σ H _ g x fun vs H1 ds r ⟨hl, p⟩ dv => ?_
  have g1 := g.r r
  obtain ⟨nb, nl⟩ := g.nb ea
  have ea1 := r.2 a _ ea nb
  show SpX K n ns F (V.ref a :: vs ++ []) H1 _ _
  rw [List.append_nil]
  refine ⟨B, M, a, C, vs, ds, _, rfl, by rw [← dv.length]; exact hl, g1, ia, za, ea1, T, dv, p, fun H' dx ws es n0 k ea' ed' ln de pe => ?_⟩
  have hn : H dx = none := r.none g n0
  have k0 : Rx K B H H' a := r.x.trans k
  have ne : dx ≠ a := fun z => by rw [z, ea1] at n0; cases n0
  have su : ∀ b o, hid M H b = some o → hid (dx :: M) H' b = some o := fun b o e => by
    obtain ⟨nm, qb⟩ := hid_get e
    have nd : b ≠ dx := ne_of_none qb hn
    refine hid_of (fun z => ?_) (k0.fr b o qb (g.no nm) fun z => nm (by rw [z]; exact ia))
    rcases List.mem_cons.mp z with z | z
    · exact nd z
    · exact nm z
  refine q σ H' Γ ns es dx hn k0 ⟨⟨List.mem_cons_of_mem _ g.mem, List.mem_cons_of_mem _ g.meml, List.mem_cons_of_mem _ g.memt, k0.box, k0.tb g.tb, fun b hb => ?_, fun b o e n => ?_, fun b hb => List.mem_cons_of_mem _ (g.sub b hb), g.xk⟩, List.mem_cons_of_mem _ ia, List.mem_cons_self, za, g1.h0 n0, ne, ea', ws, ed', ln, de⟩ (x.sub su) pe
  · rcases List.mem_cons.mp hb with e | hb
    · rw [e]
      exact ⟨by rw [ed']; exact fun z => (by cases z), ⟨fun q z => exd_code (Option.some.inj (ed'.symm.trans z)), fun q z => nomatch ed'.symm.trans z⟩⟩
    · exact k0.there g ea' hb ⟨fun q => exo_code, fun q z => nomatch z⟩
  · exact k0.fr b o (g.fr b o e n) n (ne_of_none e za)
/-- the whole of an __init__ -/
theorem run_init {N : List Str} {F : Bx → List D → (List D → Prop) → Prop} {vs : List V} {Q : VK} {E : XK} (z : SpX K n ns F vs H Q E)
    (h : ∀ (B : Bx) (a C : Addr) (ds : List D) (P : List D → Prop), ds.length = n → (∀ f, f ∈ ns → XSt K C f) → F B ds P → Rn0 K B t a C (startG N.length (.obj a :: ds)) fun _ ns' es => ns' = ns ∧ P es) :
    t { nx := fun _ H' => Q .non H', rt := Q } (L2.start N vs) H := by
  obtain ⟨B, M, a, C, us, ds, P, rfl, hl, g, ia, za, ea, T, dn, p, q⟩ := z
  refine h B a C ds P (by rw [dn.length]; exact hl) T p M _ H _ g ia za ea ⟨?_, fun i d e => ?_⟩ fun σ' H' Γ' ns' ds' dx n0 k z' x' ⟨e1, p'⟩ => ?_
  · unfold L2.start startG
    rw [List.length_append, List.length_append, List.length_map, List.length_map, List.length_replicate, List.length_replicate, List.length_cons, List.length_cons, dn.length]
  · have dn2 : DenAll K (hid M H) (.obj a :: ds) (.ref a :: us) := .cons (.obj a) dn
    unfold startG at e
    unfold L2.start
    by_cases hi : i < (D.obj a :: ds).length
    · rw [List.getElem?_append_left (by rw [List.length_map]; exact hi), List.getElem?_map] at e
      cases q : (D.obj a :: ds)[i]? with
      | none => rw [q] at e; cases e
      | some d' =>
        rw [q] at e
        have e' : d' = d := Option.some.inj (Option.some.inj e)
        subst e'
        obtain ⟨v, hv, dv⟩ := dn2.get q
        refine ⟨v, ?_, dv⟩
        rw [List.getElem?_append_left (by rw [List.length_map, ← dn2.length]; exact hi), List.getElem?_map, hv]
        rfl
    · rw [List.getElem?_append_right (by rw [List.length_map]; omega), List.getElem?_replicate] at e
      split at e <;> cases e
  · subst e1
    obtain ⟨ws, ed, ln, dw⟩ := z'.ed
    exact q H' dx ws ds' n0 k z'.ea ed ln dw p'
/-- C(..) -/
theorem ev_mkx {P : D → Prop} {F : Bx → List D → (List D → Prop) → Prop} {E0 : XK} {tr : TA} (h : EvA K B tr Γ fun ds => ds.length = n ∧ n ≤ 1000 ∧ (∀ f, f ∈ ns → XSt K C f) ∧ F B ds fun es => P (.exc C ns es)) : Ev K B (tMkx C (SpX K n ns F) E0 tr) Γ P := fun M σ H Q g x q =>
  h M σ H _ g x fun vs H1 ds r ⟨hl, hn, T, p⟩ dn => by
    have g1 := g.r r
    refine ⟨by rw [← dn.length, hl]; exact hn, fun a ha => ?_⟩
    refine ⟨B, a :: M, a, C, vs, ds, _, rfl, by rw [← dn.length]; exact hl, g1.own ha ⟨fun q => exo_code, fun q z => nomatch z⟩, List.mem_cons_self, g1.h0 ha, upd_same, T, DenAll.sub (hid_own ha) _ _ dn, p, fun H' dx ws es n0 k ea' ed' ln de pe => ⟨rfl, ?_⟩⟩
    have ne : dx ≠ a := fun z => by rw [z, upd_same] at n0; cases n0
    have n1 : H1 dx = none := by rw [upd_ne ne] at n0; exact n0
    refine q _ H' (.exc C ns es) (r.trans ((g1.new ha).x.trans k |>.new ha)) pe ?_
    exact .exc (hid_of (g1.fresh ha) ea') (hid_of (g1.fresh n1) ed') ln (DenAll.sub (fun b o e => hid_less b o (hid_less b o e)) _ _ de)
/-- e.f -/
def fldD (f : Str) (ns : List Str) (ds : List D) : Option D := (ns.zip ds).lookup f
theorem fld_ok : ∀ {ns : List Str} {ds : List D} {ws : List V} {d : D}, ns.length = ws.length → DenAll K H ds ws → fldD f ns ds = some d → ∃ v, (ns.zip ws).lookup f = some v ∧ Den K H d v
  | [], ds, ws, d, hl, dn, e => by simp [fldD] at e
  | m :: ns, ds, [], d, hl, dn, e => by simp at hl
  | m :: ns, ds, w :: ws, d, hl, dn, e => by
    cases dn with
    | @cons _ _ d0 ds' h1 h2 =>
      unfold fldD at e
      rw [List.zip_cons_cons] at e
      rw [List.zip_cons_cons, lookup_put]
      by_cases hf : f = m
      · have hb : (f == m) = true := by simpa using hf
        simp only [List.lookup, hb] at e
        have e' := Option.some.inj e
        subst e'
        rw [if_pos hf]
        exact ⟨w, rfl, h1⟩
      · have hb : (f == m) = false := by simpa using hf
        simp only [List.lookup, hb] at e
        rw [if_neg hf]
        exact fld_ok (by simpa using hl) h2 e
theorem ev_xfd {P : D → Prop} (h : Ev K B te Γ fun d => ∃ C ns ds y, d = .exc C ns ds ∧ XRd K C ∧ PySem.W.findIn K (.ref C) f = some none ∧ fldD f ns ds = some y ∧ P y) : Ev K B (tXfd K f te) Γ P := fun M σ H Q g x q =>
  h M σ H _ g x fun v H1 d r ⟨C, ns, ds, y, e, T, hno, hf, p⟩ dn => by
    subst e
    cases dn with
    | exc ea ed ln dw =>
      obtain ⟨v, hv, dv⟩ := fld_ok ln dw hf
      exact ⟨_, C, _, _, v, rfl, (hid_get ea).2, (hid_get ed).2, T, hno, hv, q v H1 y r p dv⟩
/-- a class, as a datum -/
inductive ClD : D → Value → Prop where
  | ty (n : String) : ClD (.ty n) (.type n)
  | own (C : Addr) : ClD (.obj C) (.ref C)
theorem ev_isx {P : D → Prop} {tr : TA} (h : EvA K B tr Γ fun es => ∃ C ns ds c cv b, es = [.exc C ns ds, c] ∧ ClD c cv ∧ XRd K C ∧ PySem.W.kitOne K (.ref C) cv = some b ∧ P (.bl b)) : Ev K B (tCB (rIsx K) tr) Γ P := fun M σ H Q g x q =>
  h M σ H _ g x fun vs H1 es r ⟨C, ns, ds, c, cv, b, e, hc, T, hk, p⟩ dn => by
    subst e
    cases dn with
    | cons d1 dn =>
      cases dn with
      | cons d2 dn =>
        cases dn
        cases d1 with
        | exc ea ed ln dw =>
          refine ⟨_, C, _, _, _, cv, b, rfl, (hid_get ea).2, (hid_get ed).2, T, fun u ru => ?_, hk, q _ H1 _ r p (.bl b)⟩
          cases hc with
          | ty n => cases d2; exact ru
          | own D' => cases d2; exact ru
end
end DL

set_option maxHeartbeats 2000000
namespace DL
open PySem PySem.Spec PyProof.Rows L2 RZ XE
/-- the promise of the __init__ of the one class at C -/
def SpXn (K : PySem.W.Frag) (C : Addr) (n : Nat) (ns : List Str) (F : Bx → List D → (List D → Prop) → Prop) : Sp := fun vs H Q _ => ∃ (B : Bx) (M : List Addr) (a : Addr) (us : List V) (ds : List D) (P : List D → Prop), vs = .ref a :: us ∧ us.length = n ∧
  Good K B M H ∧ a ∈ M ∧ B.H0 a = none ∧ H a = some (exo a C none) ∧ DenAll K (hid M H) ds us ∧ F B ds P ∧
  ∀ H' dx ws es, H dx = none → Rx K B H H' a → H' a = some (exo a C (some dx)) → H' dx = some (exd dx (ns.zip ws)) → ns.length = ws.length → DenAll K (hid (dx :: M) H') es ws → P es → Q .non H'
def tMkc (K : PySem.W.Frag) (C : Addr) (n : Nat) (ns : List Str) (F : Bx → List D → (List D → Prop) → Prop) (E : XK) (ta : TA) : TE := tMkx C (SpXn K C n ns F) E ta
/-- a class of exceptions that may be made by its name -/
structure Mkr (P : Program) (w : World) (K : PySem.W.Frag) (mg : Str → Option Value) (base : Heap) (k : Nat) (x : Str) (C : Addr) (n : Nat) (ns : List Str) (F : Bx → List D → (List D → Prop) → Prop) : Prop where
  ex : ∃ (fI : Addr) (fd : FuncData) (ps : List Str), XMk K C fI ∧ FnOk P w K mg base CX0 k fI fd ps (SpX K n ns F) ∧ Binds K fd ps []
  mg : mg x = some (.ref C)
  st : ∀ f, f ∈ ns → XSt K C f
section
variable {X : Cx} {k n : Nat} {C : Addr} {ns : List Str} {F : Bx → List D → (List D → Prop) → Prop} {E : XK} {e : Expr} {es : List Expr} {ta : TA} {x : Str} {p pos : Pos}
theorem spXn_to {K : PySem.W.Frag} (st : ∀ f, f ∈ ns → XSt K C f) {vs : List V} {H : Hp} {Q : VK} {E' : XK} (h : SpXn K C n ns F vs H Q E) : SpX K n ns F vs H Q E' := by
  obtain ⟨B, M, a, us, ds, P, e1, e2, g, ia, za, ea, dn, p, q⟩ := h
  exact ⟨B, M, a, C, us, ds, P, e1, e2, g, ia, za, ea, st, dn, p, q⟩
theorem pe_mkC (T : Mkr X.prog X.w X.K X.mg X.base k x C n ns F) (hr : Room (k + 1) X.A) (hg : Gl X x) (hx : Passes CX0 X E) (ha : PA X (e :: es) ta)
    (hdb : (x == ("__debug__" : Str)) = false := by decide) (he : starEach (e :: es) X.env = (false, eval e X.env) :: starEach es X.env := by rfl) (hpl : (backTo pos (starEach es X.env)).any (·.1) = false := by rfl) :
    PE X (.Call (.Name x p) (e :: es) [] pos) (tMkc X.K C n ns F E ta) := by
  obtain ⟨fI, fd, ps, Tm, FF, hb⟩ := T.ex
  exact ⟨fun pins s σ H Q I h => wpAny_Call_Name_kw (ld_glob I hg T.mg (PySem.W.callWith_K (h₀ := X.base) I.ok.mod.kin Tm.kp
    (thn (ha.run pos pins s σ H _ I h) fun us s1 ⟨vs, H1, I1, r, hz, q⟩ => ⟨I1.kIn, run_mkx Tm FF hr hb hx I1 r hz fun a ha => spXn_to T.st (q a ha)⟩) he hpl) hdb)⟩
theorem pe_mkC0 (T : Mkr X.prog X.w X.K X.mg X.base k x C n ns F) (hr : Room (k + 1) X.A) (hg : Gl X x) (hx : Passes CX0 X E) (hdb : (x == ("__debug__" : Str)) = false := by decide) :
    PE X (.Call (.Name x p) [] [] pos) (tMkc X.K C n ns F E tNil) := by
  obtain ⟨fI, fd, ps, Tm, FF, hb⟩ := T.ex
  exact ⟨fun pins s σ H Q I h => wpAny_Call_Name_kw (ld_glob I hg T.mg (PySem.W.callWith_K0 I.kIn Tm.kp (run_mkx (us := []) Tm FF hr hb hx I .nil h.1 fun a ha => spXn_to T.st (h.2 a ha))) hdb)⟩
end
section
variable {K : PySem.W.Frag} {B : Bx} {Γ : Gam} {te ta tb : TE} {C : Addr} {ns : List Str} {P : D → Prop} {n : Nat} {F : Bx → List D → (List D → Prop) → Prop} {E0 : XK} {tr : TA}
theorem ev_mkC (h : EvA K B tr Γ fun ds => ds.length = n ∧ n ≤ 1000 ∧ F B ds fun es => P (.exc C ns es)) : Ev K B (tMkc K C n ns F E0 tr) Γ P := fun M σ H Q g x q =>
  h M σ H _ g x fun vs H1 ds r ⟨hl, hn, p⟩ dn => by
    have g1 := g.r r
    refine ⟨by rw [← dn.length, hl]; exact hn, fun a ha => ?_⟩
    refine ⟨B, a :: M, a, vs, ds, _, rfl, by rw [← dn.length]; exact hl, g1.own ha ⟨fun q => exo_code, fun q z => nomatch z⟩, List.mem_cons_self, g1.h0 ha, upd_same, DenAll.sub (hid_own ha) _ _ dn, p, fun H' dx ws es n0 k ea' ed' ln de pe => ⟨rfl, ?_⟩⟩
    have ne : dx ≠ a := fun z => by rw [z, upd_same] at n0; cases n0
    have n1 : H1 dx = none := by rw [upd_ne ne] at n0; exact n0
    refine q _ H' (.exc C ns es) (r.trans ((g1.new ha).x.trans k |>.new ha)) pe ?_
    exact .exc (hid_of (g1.fresh ha) ea') (hid_of (g1.fresh n1) ed') ln (DenAll.sub (fun b o e => hid_less b o (hid_less b o e)) _ _ de)
theorem ev_tupleOf (h : EvA K B tr Γ fun ds => ∃ es, ds = [.lst es] ∧ P (.tup es)) : Ev K B (tCB (fun xs H Q => ∃ p ys, xs = [.ref p] ∧ ((SqL K H p ys ∧ ∀ l, H l = none → Q (.ref l) (upd H l (.tup ys))) ∨ (SqT K H p ys ∧ Q (.ref p) H))) tr) Γ P := fun M σ H Q g x q =>
  h M σ H _ g x fun vs H1 ds r ⟨es, e, p⟩ dn => by
    subst e
    have g1 := g.r r
    cases dn with
    | cons d1 dn =>
      cases dn
      cases d1 with
      | @lst _ xs _ ha hd =>
        refine ⟨_, xs, rfl, .inl ⟨SqL.of (hid_get ha).2, fun l hl => ?_⟩⟩
        have r2 := g1.new (o := .tup xs) hl
        exact q _ _ _ (r.trans r2) p (.tup (.inl (.inl (hid_of (g1.fresh hl) upd_same))) (g1.dens r2 hd))
def inS (z : Str) (zs : List Str) : Bool := zs.any fun w => decide (w = z)
theorem inS_ok (z : Str) : ∀ zs : List Str, inV (V.str z) (zs.map V.str) = inS z zs
  | [] => rfl
  | w :: zs => by
    have ih := inS_ok z zs
    unfold inV inS at ih ⊢
    rw [List.map_cons, List.any_cons, List.any_cons, ih]
    by_cases h : w = z <;> simp [eqV, h]
theorem ev_inT (h : Ev K B ta Γ fun d => Ev K B tb Γ fun e => ∃ (z : Str) (zs : List Str), d = .str z ∧ e = .tup (zs.map D.str) ∧ P (.bl (inS z zs))) : Ev K B (tOp (rIn K false) ta tb) Γ P :=
  ev_op (h.mono fun d hd => hd.mono fun e ⟨z, zs, e1, e2, p⟩ => fun M H x y Q g dx dy q => by
    subst e1 e2
    cases dx
    cases dy with
    | tup ht hd =>
      have e3 := dens_str hd
      subst e3
      refine ⟨_, _, rfl, .inr (SqT.sub hid_sub ht), rfl, ?_, ?_⟩
      · rw [List.all_map]
        exact List.all_eq_true.mpr fun _ _ => rfl
      · rw [inS_ok]
        exact q _ H _ g.refl p (.bl _))
theorem rn_par3 {i j l : Nat} {P : Pst} (h : EvA K B tr Γ fun ds => ∃ d e f, ds = [d, e, f] ∧ P.nx (((Γ.set i (some d)).set j (some e)).set l (some f))) : Rn K B (tPar3 i j l tr) Γ P := fun M σ H E g x k1 k2 k3 k4 =>
  h M σ H _ g x fun vs H1 ds r ⟨d, e, f, q, p⟩ dn => by
    subst q
    cases dn with
    | cons h1 dn =>
      cases dn with
      | cons h2 dn =>
        cases dn with
        | cons h3 dn =>
          cases dn
          exact ⟨_, _, _, rfl, k1 _ H1 _ r p ((((x.r g r).set h1).set h2).set h3)⟩
end
/-- e.f where the written part must not hang on the frame (within a comprehension) -/
theorem pe_xfdK {X : Cx} {e : Expr} {te : TE} {f : Str} {pos : Pos} (K : PySem.W.Frag) (he : PE X e te) (hK : X.K = K := by rfl) (hb : attributeBase e f X.env (eval e X.env) = eval e X.env := by rfl) : PE X (.Attribute e f pos) (tXfd K f te) := by
  subst hK
  exact pe_xfd he hb
/-- a def with defaults, by its body -/
theorem okD {P : Program} {w : World} {K : PySem.W.Frag} {mg : Str → Option Value} {base : Heap} {x qual : Str} {params : Arguments} {body : List Stmt} {scope : Scope} {dvs : List V} {kws : List (Str × V)} {f : Addr} {fd : FuncData} {N ps : List Str} {k : Nat} {sp : Sp}
    (F : FunD K x qual params body scope dvs kws f fd) (S : FnScope N ps scope) (len : ∀ vs H Q E, sp vs H Q E → vs.length = ps.length)
    (hbody : ∀ (cdv : Value) (A : Around) (outer : List Env) (s : Shared) (H : Hp) (vs : List V) (Q : VK) (E : XK), Room k (A.deeper (envOfC qual scope s.heap.objs.size f cdv)) → sp vs H Q E →
      ∃ t, PSs (cxOf CX0 P w K mg base N qual scope f cdv A outer s H E).nox body t ∧ t { nx := fun _ H' => Q .non H', rt := Q } (L2.start N vs) H) : FnOk P w K mg base CX0 (k + 1) f fd ps sp :=
  F.ok S len fun cdv A outer s H vs Q E hr hsp => let ⟨t, h, q⟩ := hbody cdv A outer s H vs Q E hr hsp; ⟨t, h.nox, q⟩
end DL

set_option maxHeartbeats 2000000
/-! Instances of classes of the text, as data: made, their fields read, their methods called. -/
namespace DL
open PySem PySem.Spec PyProof.Rows L2 RZ XE
/-- the promise of an __init__: it leaves the fields ns, their data by F -/
def SpN (K : PySem.W.Frag) (n : Nat) (ns : List Str) (F : Bx → List D → (List D → Prop) → Prop) : Sp := fun vs H Q _ => ∃ (B : Bx) (M : List Addr) (a C dx : Addr) (us : List V) (ds : List D) (P : List D → Prop), vs = .ref a :: us ∧ us.length = n ∧
  Good K B M H ∧ a ∈ M ∧ (B.H0 a = none ∧ a ∉ B.M0) ∧ H a = some (.ins C dx []) ∧ Cls K C ∧ (∀ f, f ∈ ns → NoAttr K C f) ∧ DenAll K (hid M H) ds us ∧ F B ds P ∧
  ∀ H' ws es, Rx K B H H' a → H' a = some (.ins C dx (ns.zip ws)) → ns.length = ws.length → DenAll K (hid M H') es ws → P es → Q .non H'
theorem Good.m0 {K : PySem.W.Frag} {B : Bx} {M : List Addr} {H : Hp} (g : Good K B M H) {p : Addr} (h : H p = none) : p ∉ B.M0 := fun m => (g.there p (g.sub p m)).1 h
structure XI (K : PySem.W.Frag) (B : Bx) (M : List Addr) (H : Hp) (a C dx : Addr) (ns : List Str) (ds : List D) : Prop where
  good : Good K B M H
  ia : a ∈ M
  za : B.H0 a = none ∧ a ∉ B.M0
  ea : ∃ ws, H a = some (.ins C dx (ns.zip ws)) ∧ ns.length = ws.length ∧ DenAll K (hid M H) ds ws
def RnI (K : PySem.W.Frag) (B : Bx) (ts : TS) (a C : Addr) (Γ : Gam) (ns : List Str) (ds : List D) (P : Gam → List Str → List D → Prop) : Prop := ∀ (M : List Addr) (σ : L2.St) (H : Hp) (E : Ends) (dx : Addr), XI K B M H a C dx ns ds → EnvOk K M H σ Γ →
  (∀ σ' H' Γ' ns' ds', Rx K B H H' a → XI K B M H' a C dx ns' ds' → EnvOk K M H' σ' Γ' → P Γ' ns' ds' → E.nx σ' H') → ts E σ H
section
variable {K : PySem.W.Frag} {B : Bx} {M : List Addr} {H H1 : Hp} {Γ : Gam} {te ta : TE} {tr : TA} {a C dx : Addr} {f : Str} {ns : List Str} {ds : List D} {P : Gam → List Str → List D → Prop} {t u : TS} {n : Nat}
theorem Good.ni {fs : List (Str × V)} (g : Good K B M H) (ea : H a = some (.ins C dx fs)) : B.No a ∧ a ≠ B.l := by
  refine ⟨g.noO ea (fun xs z => (by cases z)) fun ps z => (by cases z), ?_⟩
  obtain ⟨ns, i, r, m, c, h, n, hs, q⟩ := g.box
  exact fun z => by subst z; rw [hs] at ea; cases ea
theorem XI.r (z : XI K B M H a C dx ns ds) (r : R K B H H1) : XI K B M H1 a C dx ns ds := by
  obtain ⟨ws, ea, ln, dw⟩ := z.ea
  exact ⟨z.good.r r, z.ia, z.za, ws, r.2 a _ ea (z.good.ni ea).1, ln, z.good.dens r dw⟩
theorem ri_seq (h : RnI K B t a C Γ ns ds fun Γ' ns' ds' => RnI K B u a C Γ' ns' ds' P) : RnI K B (tSeq t u) a C Γ ns ds P := fun M σ H E dx z x q =>
  h M σ H { E with nx := u E } dx z x fun σ' H' Γ' ns' ds' k z' x' p => p M σ' H' E dx z' x' fun σ2 H2 Γ2 ns2 ds2 k2 z2 x2 p2 => q σ2 H2 Γ2 ns2 ds2 (k.trans k2) z2 x2 p2
/-- a statement that leaves the instance alone -/
theorem ri_plain (h : Rn K B t Γ { nx := fun Γ' => P Γ' ns ds, rt := fun _ => False }) : RnI K B t a C Γ ns ds P := fun M σ H E dx z x q =>
  h M σ H E z.good x (fun σ' H' Γ' r p x' => q σ' H' Γ' ns ds r.x (z.r r) x' p) (fun _ _ _ _ p _ => False.elim p) (fun _ _ _ _ p => False.elim p) fun _ _ _ _ p => False.elim p
theorem putF_end : ∀ {ns : List Str} {ws : List V} {f : Str} {y : V}, f ∉ ns → ns.length = ws.length → putF f y (ns.zip ws) = (ns ++ [f]).zip (ws ++ [y])
  | [], [], f, y, _, _ => rfl
  | [], _ :: _, _, _, _, h => by simp at h
  | _ :: _, [], _, _, _, h => by simp at h
  | m :: ns, w :: ws, f, y, hf, hl => by
    have h1 : m ≠ f := fun z => hf (by rw [z]; exact List.mem_cons_self)
    have ih := putF_end (ns := ns) (ws := ws) (f := f) (y := y) (fun z => hf (List.mem_cons_of_mem _ z)) (by simpa using hl)
    show putF f y ((m, w) :: ns.zip ws) = (m, w) :: (ns ++ [f]).zip (ws ++ [y])
    rw [← ih]
    show (if m = f then _ else _) = _
    rw [if_neg h1]
theorem ri_store {i : Nat} (hi : Γ[i]? = some (some (.obj a))) (c : Cls K C) (no : NoAttr K C f) (hf : f ∉ ns) (hl : ns.length ≤ 900) (h : Ev K B te Γ fun y => P Γ (ns ++ [f]) (ds ++ [y])) : RnI K B (sFld K (tVar i) te f) a C Γ ns ds P := fun M σ H E dx z x q => by
  refine h M σ H _ z.good x fun v H1 y r p dv => ?_
  obtain ⟨vi, h1, h2⟩ := x.at_ i _ hi
  cases h2
  obtain ⟨ws, ea, ln, dw⟩ := (z.r r).ea
  have g1 := z.good.r r
  obtain ⟨nb, nl⟩ := g1.ni ea
  have nc : NoCode H1 a := .of ea fun φ z => by cases z
  refine ⟨_, h1, a, C, dx, ns.zip ws, rfl, ea, c, no, ?_, ?_⟩
  · rw [List.length_zip]
    omega
  · rw [putF_end hf ln]
    have hp : hid M (upd H1 a (.ins C dx ((ns ++ [f]).zip (ws ++ [v])))) = hid M H1 := hid_put z.ia
    refine q σ _ Γ (ns ++ [f]) (ds ++ [y]) ⟨r.box.put nb.b nl, fun b o e n1 n2 => by rw [upd_ne n2]; exact r.2 b o e n1, fun t => (r.tb t).put nb.t nc⟩ ⟨g1.putOwn nb nl nc z.za.1, z.ia, z.za, ws ++ [v], upd_same, ?_, ?_⟩ ?_ p
    · rw [List.length_append, List.length_append, ln]; rfl
    · rw [hp]
      exact dw.snoc dv
    · exact (x.r z.good r).sub fun b o e => by rw [hp]; exact e
theorem startG_ok {N : List Str} {ds : List D} {us : List V} (dn : DenAll K (hid M H) ds us) : EnvOk K M H (L2.start N us) (startG N.length ds) := by
  refine ⟨?_, fun i d e => ?_⟩
  · unfold L2.start startG
    rw [List.length_append, List.length_append, List.length_map, List.length_map, List.length_replicate, List.length_replicate, dn.length]
  · unfold startG at e
    unfold L2.start
    by_cases hi : i < ds.length
    · rw [List.getElem?_append_left (by rw [List.length_map]; exact hi), List.getElem?_map] at e
      cases q : ds[i]? with
      | none => rw [q] at e; cases e
      | some d' =>
        rw [q] at e
        have e' : d' = d := Option.some.inj (Option.some.inj e)
        subst e'
        obtain ⟨v, hv, dv⟩ := dn.get q
        refine ⟨v, ?_, dv⟩
        rw [List.getElem?_append_left (by rw [List.length_map, ← dn.length]; exact hi), List.getElem?_map, hv]
        rfl
    · rw [List.getElem?_append_right (by rw [List.length_map]; omega), List.getElem?_replicate] at e
      split at e <;> cases e
/-- the whole of an __init__ -/
theorem run_initN {N : List Str} {F : Bx → List D → (List D → Prop) → Prop} {vs : List V} {Q : VK} {E : XK} (z : SpN K n ns F vs H Q E)
    (h : ∀ (B : Bx) (a C : Addr) (ds : List D) (P : List D → Prop), ds.length = n → Cls K C → (∀ f, f ∈ ns → NoAttr K C f) → F B ds P → RnI K B t a C (startG N.length (.obj a :: ds)) [] [] fun _ ns' es => ns' = ns ∧ P es) :
    t { nx := fun _ H' => Q .non H', rt := Q } (L2.start N vs) H := by
  obtain ⟨B, M, a, C, dx, us, ds, P, rfl, hl, g, ia, za, ea, c, no, dn, p, q⟩ := z
  refine h B a C ds P (by rw [dn.length]; exact hl) c no p M _ H _ dx ⟨g, ia, za, [], ea, rfl, .nil⟩ (startG_ok (.cons (.obj a) dn)) fun σ' H' Γ' ns' ds' k z' x' ⟨e1, p'⟩ => ?_
  subst e1
  obtain ⟨ws, ea', ln, dw⟩ := z'.ea
  exact q H' ws ds' k ea' ln dw p'
/-- C(..) -/
theorem ev_mk {P : D → Prop} {F : Bx → List D → (List D → Prop) → Prop} {E0 : XK} (c : Cls K C) (no : ∀ f, f ∈ ns → NoAttr K C f) (h : EvA K B tr Γ fun ds => ds.length = n ∧ F B ds fun es => P (.ins C ns es)) : Ev K B (tMake C (SpN K n ns F) [] E0 tr) Γ P := fun M σ H Q g x q =>
  h M σ H _ g x fun vs H1 ds r ⟨hl, p⟩ dn => fun a dx ha hd ne => by
    have g1 := g.r r
    have hd' : ∀ b o, H1 b = some o → upd H1 dx (.own a) b = some o := fun b o e => by rw [upd_ne (ne_of_none e hd)]; exact e
    have r1 : R K B H1 (upd H1 dx (.own a)) := g1.new hd
    have g2 := g1.r r1
    have ha2 : (upd H1 dx (.own a)) a = none := by rw [upd_ne (Ne.symm ne)]; exact ha
    rw [List.append_nil]
    refine ⟨B, a :: M, a, C, dx, vs, ds, _, rfl, by rw [← dn.length]; exact hl, g2.own ha2, List.mem_cons_self, ⟨g2.h0 ha2, g2.m0 ha2⟩, upd_same, c, no, DenAll.sub (hid_own ha2) _ _ (g1.dens r1 dn), p, fun H' ws es k ea ln de pe => ⟨rfl, ?_⟩⟩
    refine q _ H' (.ins C ns es) (r.trans (r1.trans ((g2.new ha2).x.trans k |>.new ha2))) pe ?_
    exact .ins (hid_of (g1.fresh ha) ea) ln (DenAll.sub hid_less _ _ de)
/-- e.f -/
theorem ev_fld {P : D → Prop} (h : Ev K B te Γ fun d => ∃ C ns ds y, d = .ins C ns ds ∧ Cls K C ∧ NoAttr K C f ∧ fldD f ns ds = some y ∧ P y) : Ev K B (tFld K te f) Γ P := fun M σ H Q g x q =>
  h M σ H _ g x fun v H1 d r ⟨C, ns, ds, y, e, c, no, hf, p⟩ dn => by
    subst e
    cases dn with
    | ins ea ln dw =>
      obtain ⟨v, hv, dv⟩ := fld_ok ln dw hf
      exact ⟨_, C, _, _, v, rfl, (hid_get ea).2, c, no, hv, q v H1 y r p dv⟩
theorem lookup_not : ∀ {ns : List Str} {ws : List V} {f : Str}, f ∉ ns → (ns.zip ws).lookup f = none
  | [], _, _, _ => by simp
  | _ :: _, [], _, _ => by simp
  | m :: ns, w :: ws, f, hf => by
    rw [List.zip_cons_cons, lookup_put, if_neg (fun z => hf (by rw [z]; exact List.mem_cons_self))]
    exact lookup_not fun z => hf (List.mem_cons_of_mem _ z)
/-- e.m(..): the instance is the first datum -/
theorem ev_meth {P : D → Prop} {F : Bx → List D → (D → Prop) → Prop} {m : Str} {E0 : XK} (h : Ev K B ta Γ fun d => ∃ ns ds, d = .ins C ns ds ∧ m ∉ ns ∧ EvA K B tr Γ fun es => es.length + 1 = n ∧ F B (d :: es) P) : Ev K B (tMeth C m (SpD K n F) [] E0 ta tr) Γ P := fun M σ H Q g x q =>
  h M σ H _ g x fun v H1 d r ⟨ns, ds, e, hm, p⟩ dn => by
    subst e
    cases dn with
    | @ins a _ dx _ ws _ ea ln dw =>
      refine ⟨a, dx, ns.zip ws, rfl, (hid_get ea).2, lookup_not hm, ?_⟩
      refine p M σ H1 _ (g.r r) (x.r g r) fun us H2 es r2 ⟨hl, pf⟩ de => ?_
      have d2 : Den K (hid M H2) (.ins C ns ds) (.ref a) := (g.r r).den r2 (.ins ea ln dw)
      rw [List.append_nil]
      exact ⟨by rw [List.length_cons, ← de.length]; exact hl, B, M, _, P, (g.r r).r r2, .cons d2 de, pf, fun v H' d r3 p3 h3 => q v H' d ((r.trans r2).trans r3) p3 h3⟩
end
end DL

set_option maxHeartbeats 2000000
/-! Statements of a def that makes lists and changes them: the owned objects, with what they hold. -/
namespace DL
open PySem PySem.Spec PyProof.Rows L2 RZ XE
inductive Cell where
  | lst (ds : List D)
  | dK (ks : List Key) (ds : List D)
  | dT (ks : List (List Key)) (ds : List D)
abbrev Own := List (Addr × Cell)
abbrev keysO (Ω : Own) : List Addr := Ω.map (·.1)
def CellOk (K : PySem.W.Frag) (M : List Addr) (H : Hp) (p : Addr) : Cell → Prop
  | .lst ds => ∃ vs, H p = some (.lst vs) ∧ DenAll K (hid M H) ds vs
  | .dK ks ds => ∃ vs, H p = some (.dK (ks.zip vs)) ∧ ks.length = vs.length ∧ DenAll K (hid M H) ds vs
  | .dT ks ds => ∃ vs, H p = some (.dT (ks.zip vs)) ∧ ks.length = vs.length ∧ DenAll K (hid M H) ds vs
/-- H0, M0: the heap and what was hidden at the def's entry -/
structure StO (K : PySem.W.Frag) (B : Bx) (H0 : Hp) (M0 : List Addr) (H : Hp) (Ω : Own) : Prop where
  r : R K B H0 H
  good : Good K B (keysO Ω ++ M0) H
  m0 : Good K B M0 H0
  fr : ∀ p, p ∈ keysO Ω → H0 p = none
  nd : (keysO Ω).Nodup
  cell : ∀ p c, (p, c) ∈ Ω → CellOk K (keysO Ω ++ M0) H p c
/-- from H with Ω on to H' with Ω': what is seen stays, what is owned anew is new -/
structure Go (M0 : List Addr) (Ω Ω' : Own) (H H' : Hp) : Prop where
  v : ∀ a o, hid (keysO Ω ++ M0) H a = some o → H' a = some o
  k : ∀ q, q ∈ keysO Ω' → q ∈ keysO Ω ∨ H q = none
  t : ∀ a, H a ≠ none → H' a ≠ none
theorem Go.refl {M0 : List Addr} {Ω : Own} {H : Hp} : Go M0 Ω Ω H H := ⟨fun a o e => (hid_get e).2, fun q hq => .inl hq, fun a h => h⟩
theorem Go.trans {M0 : List Addr} {Ω Ω' Ω'' : Own} {H H' H'' : Hp} (x : Go M0 Ω Ω' H H') (y : Go M0 Ω' Ω'' H' H'') : Go M0 Ω Ω'' H H'' :=
  ⟨fun a o e => by
    obtain ⟨n, q⟩ := hid_get e
    refine y.v a o (hid_of (fun z => n ?_) (x.v a o e))
    rcases List.mem_append.mp z with z | z
    · rcases x.k a z with z | z
      · exact List.mem_append_left _ z
      · rw [q] at z; cases z
    · exact List.mem_append_right _ z,
   fun q hq => by
    rcases y.k q hq with z | z
    · exact x.k q z
    · cases e : H q with
      | none => exact .inr rfl
      | some o => exact absurd z (x.t q (by rw [e]; exact fun w => by cases w)), fun a h => y.t a (x.t a h)⟩
structure Pso where
  nx : Gam → Own → Prop
  rt : D → Prop
  bk : Gam → Own → Prop := fun _ _ => False
  ct : Gam → Own → Prop := fun _ _ => False
def Rw (K : PySem.W.Frag) (B : Bx) (ts : TS) (H0 : Hp) (M0 : List Addr) (Γ : Gam) (Ω : Own) (P : Pso) : Prop := ∀ (σ : L2.St) (H : Hp) (E : Ends), StO K B H0 M0 H Ω → EnvOk K (keysO Ω ++ M0) H σ Γ →
  (∀ σ' H' Γ' Ω', Go M0 Ω Ω' H H' → StO K B H0 M0 H' Ω' → EnvOk K (keysO Ω' ++ M0) H' σ' Γ' → P.nx Γ' Ω' → E.nx σ' H') →
  (∀ v H' d, R K B H0 H' → P.rt d → Den K (hid M0 H') d v → E.rt v H') →
  (∀ σ' H' Γ' Ω', Go M0 Ω Ω' H H' → StO K B H0 M0 H' Ω' → EnvOk K (keysO Ω' ++ M0) H' σ' Γ' → P.bk Γ' Ω' → E.bk σ' H') →
  (∀ σ' H' Γ' Ω', Go M0 Ω Ω' H H' → StO K B H0 M0 H' Ω' → EnvOk K (keysO Ω' ++ M0) H' σ' Γ' → P.ct Γ' Ω' → E.ct σ' H') → ts E σ H
section
variable {K : PySem.W.Frag} {B : Bx} {H0 H H1 : Hp} {M0 : List Addr} {Γ : Gam} {Ω : Own} {P : Pso} {te ta : TE} {tr : TA} {t u : TS} {c : TT} {g : TG} {wi : TI}
theorem CellOk.sub {M M' : List Addr} {p : Addr} {c : Cell} (x : CellOk K M H p c) (hp : ∀ o, H p = some o → H1 p = some o) (e : ∀ a o, hid M H a = some o → hid M' H1 a = some o) : CellOk K M' H1 p c := by
  cases c with
  | lst ds =>
    obtain ⟨vs, h1, h2⟩ := x
    exact ⟨vs, hp _ h1, DenAll.sub e _ _ h2⟩
  | dK ks ds =>
    obtain ⟨vs, h1, h2, h3⟩ := x
    exact ⟨vs, hp _ h1, h2, DenAll.sub e _ _ h3⟩
  | dT ks ds =>
    obtain ⟨vs, h1, h2, h3⟩ := x
    exact ⟨vs, hp _ h1, h2, DenAll.sub e _ _ h3⟩
theorem StO.nb (s : StO K B H0 M0 H Ω) {p : Addr} (hp : p ∈ keysO Ω) : B.No p ∧ p ≠ B.l := ⟨s.m0.fresh_b (s.fr p hp), s.m0.fresh_l (s.fr p hp)⟩
theorem StO.nc (s : StO K B H0 M0 H Ω) {p : Addr} (hp : p ∈ keysO Ω) : NoCode H p := by
  obtain ⟨⟨q, c⟩, hc, e⟩ := List.mem_map.mp hp
  have e' : q = p := e
  subst e'
  have x := s.cell q c hc
  cases c with
  | lst ds =>
    obtain ⟨vs, h1, h2⟩ := x
    exact .of h1 fun φ z => by cases z
  | dK ks ds =>
    obtain ⟨vs, h1, h2⟩ := x
    exact .of h1 fun φ z => by cases z
  | dT ks ds =>
    obtain ⟨vs, h1, h2⟩ := x
    exact .of h1 fun φ z => by cases z
theorem StO.h0 (s : StO K B H0 M0 H Ω) {p : Addr} (hp : p ∈ keysO Ω) : B.H0 p = none := s.m0.h0 (s.fr p hp)
/-- nothing owned has changed -/
theorem StO.step (s : StO K B H0 M0 H Ω) (r : R K B H H1) : StO K B H0 M0 H1 Ω :=
  ⟨s.r.trans r, s.good.r r, s.m0, s.fr, s.nd, fun p c hc => (s.cell p c hc).sub (fun o e => r.2 p o e (s.nb (List.mem_map.mpr ⟨(p, c), hc, rfl⟩)).1) (s.good.sub' r)⟩
theorem R.go (r : R K B H H1) (g : Good K B M0 H0) (s : StO K B H0 M0 H Ω) : Go M0 Ω Ω H H1 :=
  ⟨fun a o e => r.v (fun n => g.no fun z => n (List.mem_append_right _ z)) a o e, fun q hq => .inl hq, fun a h z => h (r.none s.good z)⟩
theorem Go.upd {j : Nat} {p : Addr} {c c' : Cell} {o : HO} (hj : Ω[j]? = some (p, c)) (hk : keysO (Ω.set j (p, c')) = keysO Ω) : Go M0 Ω (Ω.set j (p, c')) H (upd H p o) :=
  ⟨fun a u e => by
    obtain ⟨n, q⟩ := hid_get e
    rw [upd_ne (fun z => n (List.mem_append_left _ (List.mem_map.mpr ⟨(p, c), List.mem_of_getElem? hj, z.symm⟩)))]; exact q, fun q hq => .inl (by rw [hk] at hq; exact hq), fun a h => by
    by_cases e : a = p
    · rw [e, upd_same]; exact fun z => by cases z
    · rw [upd_ne e]; exact h⟩
/-- what a result denotes where the owned objects are hidden, it denotes where only those of the entry are -/
theorem den_out {d : D} {v : V} (h : Den K (hid (keysO Ω ++ M0) H) d v) : Den K (hid M0 H) d v := Den.sub (fun a o e => by
  obtain ⟨n, q⟩ := hid_get e
  exact hid_of (fun z => n (List.mem_append_right _ z)) q) d v h
theorem rw_next (p : P.nx Γ Ω) : Rw K B tNext H0 M0 Γ Ω P := fun σ H E s x k1 k2 k3 k4 => k1 σ H Γ Ω Go.refl s x p
theorem rw_brk (p : P.bk Γ Ω) : Rw K B tBreak H0 M0 Γ Ω P := fun σ H E s x k1 k2 k3 k4 => k3 σ H Γ Ω Go.refl s x p
theorem rw_cont (p : P.ct Γ Ω) : Rw K B tCont H0 M0 Γ Ω P := fun σ H E s x k1 k2 k3 k4 => k4 σ H Γ Ω Go.refl s x p
theorem rw_seq (h : Rw K B t H0 M0 Γ Ω { P with nx := fun Γ' Ω' => Rw K B u H0 M0 Γ' Ω' P }) : Rw K B (tSeq t u) H0 M0 Γ Ω P := fun σ H E s x k1 k2 k3 k4 =>
  h σ H { E with nx := u E } s x (fun σ' H' Γ' Ω' go s' x' p => p σ' H' E s' x' (fun σ2 H2 Γ2 Ω2 g2 => k1 σ2 H2 Γ2 Ω2 (go.trans g2)) k2 (fun σ2 H2 Γ2 Ω2 g2 => k3 σ2 H2 Γ2 Ω2 (go.trans g2)) fun σ2 H2 Γ2 Ω2 g2 => k4 σ2 H2 Γ2 Ω2 (go.trans g2)) k2 k3 k4
theorem rw_if (h : EvT K B c Γ fun k => if k = true then Rw K B t H0 M0 Γ Ω P else Rw K B u H0 M0 Γ Ω P) : Rw K B (tIfS c t u) H0 M0 Γ Ω P := fun σ H E s x k1 k2 k3 k4 =>
  h _ σ H _ s.good x fun k H1 r p => by
    cases k with
    | true =>
      rw [if_pos rfl] at p ⊢
      exact p σ H1 E (s.step r) (x.r s.good r) (fun σ2 H2 Γ2 Ω2 g2 => k1 σ2 H2 Γ2 Ω2 ((r.go s.m0 s).trans g2)) k2 (fun σ2 H2 Γ2 Ω2 g2 => k3 σ2 H2 Γ2 Ω2 ((r.go s.m0 s).trans g2)) fun σ2 H2 Γ2 Ω2 g2 => k4 σ2 H2 Γ2 Ω2 ((r.go s.m0 s).trans g2)
    | false =>
      rw [if_neg Bool.false_ne_true] at p ⊢
      exact p σ H1 E (s.step r) (x.r s.good r) (fun σ2 H2 Γ2 Ω2 g2 => k1 σ2 H2 Γ2 Ω2 ((r.go s.m0 s).trans g2)) k2 (fun σ2 H2 Γ2 Ω2 g2 => k3 σ2 H2 Γ2 Ω2 ((r.go s.m0 s).trans g2)) fun σ2 H2 Γ2 Ω2 g2 => k4 σ2 H2 Γ2 Ω2 ((r.go s.m0 s).trans g2)
theorem rw_ret (h : Ev K B te Γ P.rt) : Rw K B (tRet te) H0 M0 Γ Ω P := fun σ H E s x k1 k2 k3 k4 => h _ σ H _ s.good x fun v H1 d r p dn => k2 v H1 d (s.r.trans r) p (den_out dn)
theorem rw_set {i : Nat} (h : Ev K B te Γ fun d => P.nx (Γ.set i (some d)) Ω) : Rw K B (tAsg te (gName i)) H0 M0 Γ Ω P := fun σ H E s x k1 k2 k3 k4 =>
  h _ σ H _ s.good x fun v H1 d r p dn => k1 _ H1 _ Ω (r.go s.m0 s) (s.step r) ((x.r s.good r).set dn) p
theorem rw_drop (h : Ev K B te Γ fun _ => P.nx Γ Ω) : Rw K B (tDrop te) H0 M0 Γ Ω P := fun σ H E s x k1 k2 k3 k4 =>
  h _ σ H _ s.good x fun v H1 d r p dn => k1 _ H1 _ Ω (r.go s.m0 s) (s.step r) (x.r s.good r) p
/-- x = [..], to be changed later on -/
theorem rw_own {i : Nat} (h : EvA K B tr Γ fun ds => ds.length ≤ sizeLine ∧ ∀ p, P.nx (Γ.set i (some (.obj p))) ((p, .lst ds) :: Ω)) : Rw K B (tAsg (tLst tr) (gName i)) H0 M0 Γ Ω P := fun σ H E s x k1 k2 k3 k4 =>
  h _ σ H _ s.good x fun vs H1 ds r ⟨hl, p⟩ dn => ⟨by rw [← dn.length]; exact hl, fun a ha => by
    have s1 := s.step r
    have g1 := s.good.r r
    have r2 := g1.new (o := .lst vs) ha
    have na : a ∉ keysO Ω ++ M0 := g1.fresh ha
    have h0 : H0 a = none := s1.r.none s.m0 ha
    have su : ∀ b o, hid (keysO Ω ++ M0) H1 b = some o → hid (a :: (keysO Ω ++ M0)) (upd H1 a (.lst vs)) b = some o := hid_own ha
    refine k1 _ _ _ ((a, .lst ds) :: Ω) ((r.go s.m0 s).trans ⟨fun b o e => by rw [upd_ne (ne_of_none (hid_get e).2 ha)]; exact (hid_get e).2, fun q hq => (List.mem_cons.mp hq).elim (fun e => .inr (by rw [e]; exact ha)) .inl, fun b hb => by
      by_cases e : b = a
      · rw [e, upd_same]; exact fun z => by cases z
      · rw [upd_ne e]; exact hb⟩) ⟨s1.r.trans r2, g1.own ha, s.m0, fun p hp => ?_, ?_, fun p c hc => ?_⟩ ?_ (p a)
    · rcases List.mem_cons.mp hp with e | hp
      · rw [e]; exact h0
      · exact s.fr p hp
    · exact List.nodup_cons.mpr ⟨fun z => na (List.mem_append_left _ z), s.nd⟩
    · rcases List.mem_cons.mp hc with e | hc
      · obtain ⟨e1, e2⟩ := Prod.mk.inj e
        subst e1 e2
        exact ⟨vs, upd_same, DenAll.sub su _ _ dn⟩
      · exact (s1.cell p c hc).sub (fun o e => by rw [upd_ne (ne_of_none e ha)]; exact e) su
    · have y : EnvOk K (a :: (keysO Ω ++ M0)) (upd H1 a (.lst vs)) σ Γ := (x.r s.good r).sub su
      exact y.set (.obj a)⟩
theorem keysO_erase : ∀ (Ω : Own) (j : Nat), keysO (Ω.eraseIdx j) = (keysO Ω).eraseIdx j
  | [], _ => rfl
  | q :: Ω, 0 => rfl
  | q :: Ω, j + 1 => by
    show q.1 :: keysO (Ω.eraseIdx j) = q.1 :: (keysO Ω).eraseIdx j
    rw [keysO_erase Ω j]
theorem not_erase : ∀ {l : List Addr} {j : Nat} {p : Addr}, l.Nodup → l[j]? = some p → p ∉ l.eraseIdx j
  | [], _, _, _, h => by simp at h
  | q :: l, 0, p, n, h => by
    have e : q = p := Option.some.inj h
    rw [← e]
    exact (List.nodup_cons.mp n).1
  | q :: l, j + 1, p, n, h => fun z => by
    have h' : l[j]? = some p := h
    rcases List.mem_cons.mp (show p ∈ q :: l.eraseIdx j from z) with e | z
    · exact (List.nodup_cons.mp n).1 (by rw [← e]; exact List.mem_of_getElem? h')
    · exact not_erase (List.nodup_cons.mp n).2 h' z
theorem nd_inj {l : List Addr} {j k : Nat} {p : Addr} (n : l.Nodup) (h1 : l[j]? = some p) (h2 : l[k]? = some p) : j = k := by
  obtain ⟨a1, b1⟩ := List.getElem?_eq_some_iff.mp h1
  obtain ⟨a2, b2⟩ := List.getElem?_eq_some_iff.mp h2
  exact (List.getElem_inj n).mp (b1.trans b2.symm)
/-! one owned list, by its place j in Ω -/
theorem StO.key {j : Nat} {p : Addr} {c : Cell} (hj : Ω[j]? = some (p, c)) : p ∈ keysO Ω := List.mem_map.mpr ⟨(p, c), List.mem_of_getElem? hj, rfl⟩
theorem keysO_set {j : Nat} {p : Addr} {c c' : Cell} (hj : Ω[j]? = some (p, c)) : keysO (Ω.set j (p, c')) = keysO Ω := by
  apply List.ext_getElem?
  intro k
  rw [keysO, keysO, List.getElem?_map, List.getElem?_map]
  by_cases e : j = k
  · subst e
    have hl : j < Ω.length := (List.getElem?_eq_some_iff.mp hj).1
    rw [List.getElem?_set_self hl, hj]; rfl
  · rw [List.getElem?_set_ne e]
/-- the owned list gets new contents -/
theorem StO.put {j : Nat} {p : Addr} {ds es : List D} {ws : List V} (s : StO K B H0 M0 H Ω) (hj : Ω[j]? = some (p, .lst ds)) (dw : DenAll K (hid (keysO Ω ++ M0) H) es ws) : StO K B H0 M0 (upd H p (.lst ws)) (Ω.set j (p, .lst es)) := by
  have hk : p ∈ keysO Ω := StO.key hj
  obtain ⟨nb, nl⟩ := s.nb hk
  have hp : hid (keysO Ω ++ M0) (upd H p (.lst ws)) = hid (keysO Ω ++ M0) H := hid_put (List.mem_append_left _ hk)
  have ek := keysO_set (c' := Cell.lst es) hj
  refine ⟨s.r.putNew (s.fr p hk) nb nl (s.nc hk), by rw [ek]; exact s.good.putOwn nb nl (s.nc hk) (s.h0 hk), s.m0, fun q hq => s.fr q (by rw [ek] at hq; exact hq), by rw [ek]; exact s.nd, fun q c hc => ?_⟩
  · rw [ek]
    obtain ⟨k, hkq⟩ := List.getElem?_of_mem hc
    by_cases e : j = k
    · subst e
      have hl : j < Ω.length := (List.getElem?_eq_some_iff.mp hj).1
      rw [List.getElem?_set_self hl] at hkq
      obtain ⟨e1, e2⟩ := Prod.mk.inj (Option.some.inj hkq)
      subst e1 e2
      exact ⟨ws, upd_same, by rw [hp]; exact dw⟩
    · rw [List.getElem?_set_ne e] at hkq
      have ne : q ≠ p := fun z => by
        have h1 : (keysO Ω)[k]? = some q := by rw [keysO, List.getElem?_map, hkq]; rfl
        have h2 : (keysO Ω)[j]? = some p := by rw [keysO, List.getElem?_map, hj]; rfl
        exact e (nd_inj s.nd h2 (by rw [h1, z]))
      refine (s.cell q c (List.mem_of_getElem? hkq)).sub (fun o ho => by rw [upd_ne ne]; exact ho) fun b o hb => by rw [hp]; exact hb
/-- x.append(e) -/
theorem rw_append {i j : Nat} {p : Addr} {ds : List D} (hi : Γ[i]? = some (some (.obj p))) (hj : Ω[j]? = some (p, .lst ds)) (hz : ds.length < sizeLine) (h : Ev K B te Γ fun e => P.nx Γ (Ω.set j (p, .lst (ds ++ [e])))) :
    Rw K B (tDrop (tBM K "list" rAppend (tVar i) (tCons te tNil))) H0 M0 Γ Ω P := fun σ H E s x k1 k2 k3 k4 => by
  obtain ⟨vi, h1, h2⟩ := x.at_ i _ hi
  cases h2
  obtain ⟨vs, hp, dv⟩ := s.cell p _ (List.mem_of_getElem? hj)
  refine ⟨_, h1, .inl ⟨rfl, _, SqL.of hp⟩, ?_⟩
  refine h _ σ H _ s.good x fun v H1 e r pe de => ?_
  have s1 := s.step r
  obtain ⟨vs, hp, dv⟩ := s1.cell p _ (List.mem_of_getElem? hj)
  refine ⟨p, vs, v, rfl, rfl, hp, by rw [← dv.length]; exact hz, ?_⟩
  have hq : hid (keysO Ω ++ M0) (upd H1 p (.lst (vs ++ [v]))) = hid (keysO Ω ++ M0) H1 := hid_put (List.mem_append_left _ (StO.key hj))
  refine k1 _ _ Γ (Ω.set j (p, .lst (ds ++ [e]))) ((r.go s.m0 s).trans (Go.upd hj (keysO_set hj))) (s1.put hj (dv.snoc de)) ?_ pe
  rw [keysO_set hj]
  exact (x.r s.good r).sub fun b o hb => by rw [hq]; exact hb
/-- one object fewer is hidden -/
theorem less_sub {j : Nat} : ∀ a o, hid (keysO Ω ++ M0) H a = some o → hid (keysO (Ω.eraseIdx j) ++ M0) H a = some o := fun a o e => by
  obtain ⟨n, q⟩ := hid_get e
  refine hid_of (fun z => n ?_) q
  rcases List.mem_append.mp z with z | z
  · obtain ⟨c, hc, e1⟩ := List.mem_map.mp z
    exact List.mem_append_left _ (List.mem_map.mpr ⟨c, List.mem_of_mem_eraseIdx hc, e1⟩)
  · exact List.mem_append_right _ z
theorem StO.lessGood {j : Nat} (s : StO K B H0 M0 H Ω) : Good K B (keysO (Ω.eraseIdx j) ++ M0) H :=
  ⟨List.mem_append_right _ s.m0.mem, List.mem_append_right _ s.m0.meml, List.mem_append_right _ s.m0.memt, s.good.box, s.good.tb, fun a ha => by
    rcases List.mem_append.mp ha with z | z
    · obtain ⟨c, hc, e1⟩ := List.mem_map.mp z
      exact s.good.there a (List.mem_append_left _ (List.mem_map.mpr ⟨c, List.mem_of_mem_eraseIdx hc, e1⟩))
    · exact s.good.there a (List.mem_append_right _ z), s.good.fr, fun a ha => List.mem_append_right _ (s.m0.sub a ha), s.good.xk⟩
theorem StO.notin {j : Nat} {p : Addr} {c : Cell} (s : StO K B H0 M0 H Ω) (hj : Ω[j]? = some (p, c)) : p ∉ keysO (Ω.eraseIdx j) ++ M0 := fun z => by
  rcases List.mem_append.mp z with z | z
  · have h2 : (keysO Ω)[j]? = some p := by rw [keysO, List.getElem?_map, hj]; rfl
    rw [keysO_erase] at z
    exact not_erase s.nd h2 z
  · exact (s.m0.there p z).1 (s.fr p (StO.key hj))
/-- read as data for a while: the name in slot i -/
theorem StO.lend {i j : Nat} {p : Addr} {ds : List D} {σ : L2.St} (s : StO K B H0 M0 H Ω) (x : EnvOk K (keysO Ω ++ M0) H σ Γ) (hi : Γ[i]? = some (some (.obj p))) (hj : Ω[j]? = some (p, .lst ds)) : EnvOk K (keysO (Ω.eraseIdx j) ++ M0) H σ (Γ.set i (some (.lst ds))) := by
  obtain ⟨vi, h1, h2⟩ := x.at_ i _ hi
  cases h2
  obtain ⟨vs, hp, dv⟩ := s.cell p _ (List.mem_of_getElem? hj)
  have y := x.sub (H1 := H) (M' := keysO (Ω.eraseIdx j) ++ M0) less_sub
  have z := y.set (i := i) (d := .lst ds) (v := .ref p) (.lst (hid_of (s.notin hj) hp) (DenAll.sub less_sub _ _ dv))
  have e : σ.set i (some (V.ref p)) = σ := by
    apply List.ext_getElem?
    intro k
    by_cases ek : i = k
    · subst ek
      have hl : i < σ.length := (List.getElem?_eq_some_iff.mp h1).1
      rw [List.getElem?_set_self hl, h1]
    · rw [List.getElem?_set_ne ek]
  rw [e] at z
  exact z
def flatD : D → Bool
  | .non => true
  | .bl _ => true
  | .int _ => true
  | .str _ => true
  | _ => false
theorem den_flat {H H1 : Hp} {d : D} {v : V} (f : flatD d = true) (h : Den K H d v) : Den K H1 d v := by
  cases h <;> first | (cases f; done) | constructor
/-- x.insert(i, e): the place is read with the list lent -/
theorem rw_insert {i j : Nat} {p : Addr} {ds : List D} {r : V → List V → Hp → VK → Prop} (hr : r = fun x vs H Q => ∃ (l : Addr) (xs : List V) (i : Int) (y : V), x = .ref l ∧ vs = [.int i, y] ∧ H l = some (.lst xs) ∧ xs.length < sizeLine ∧ 0 ≤ i ∧ i < 2 ^ 63 ∧ Q .non (upd H l (.lst (xs.take i.toNat ++ [y] ++ xs.drop i.toNat))))
    (hi : Γ[i]? = some (some (.obj p))) (hj : Ω[j]? = some (p, .lst ds)) (hz : ds.length < sizeLine)
    (h : Ev K B ta (Γ.set i (some (.lst ds))) fun d => ∃ k : Int, d = .int k ∧ 0 ≤ k ∧ k < 2 ^ 63 ∧ Ev K B te Γ fun e => P.nx Γ (Ω.set j (p, .lst (ds.take k.toNat ++ [e] ++ ds.drop k.toNat)))) :
    Rw K B (tDrop (tBM K "list" r (tVar i) (tCons ta (tCons te tNil)))) H0 M0 Γ Ω P := fun σ H E s x k1 k2 k3 k4 => by
  subst hr
  obtain ⟨vi, h1, h2⟩ := x.at_ i _ hi
  cases h2
  obtain ⟨vs, hp, dv⟩ := s.cell p _ (List.mem_of_getElem? hj)
  refine ⟨_, h1, .inl ⟨rfl, _, SqL.of hp⟩, ?_⟩
  refine h _ σ H _ s.lessGood (s.lend x hi hj) fun v H1 d r1 ⟨k, ed, k0, kz, pe⟩ dd => ?_
  subst ed
  cases dd
  have s1 := s.step r1
  refine pe _ σ H1 _ s1.good (x.r s.good r1) fun v2 H2 e r2 pn de => ?_
  have s2 := s1.step r2
  obtain ⟨vs, hp, dv⟩ := s2.cell p _ (List.mem_of_getElem? hj)
  refine ⟨p, vs, k, v2, rfl, rfl, hp, by rw [← dv.length]; exact hz, k0, kz, ?_⟩
  have hq : hid (keysO Ω ++ M0) (upd H2 p (.lst (vs.take k.toNat ++ [v2] ++ vs.drop k.toNat))) = hid (keysO Ω ++ M0) H2 := hid_put (List.mem_append_left _ (StO.key hj))
  refine k1 _ _ Γ (Ω.set j (p, .lst (ds.take k.toNat ++ [e] ++ ds.drop k.toNat))) (((r1.go s.m0 s).trans (r2.go s.m0 s1)).trans (Go.upd hj (keysO_set hj))) (s2.put hj (((dv.take _).snoc de).app (dv.drop _))) ?_ pn
  rw [keysO_set hj]
  exact ((x.r s.good r1).r s1.good r2).sub fun b o hb => by rw [hq]; exact hb
/-- from here on the list is data -/
theorem rw_give {i j : Nat} {p : Addr} {ds : List D} (hi : Γ[i]? = some (some (.obj p))) (hj : Ω[j]? = some (p, .lst ds)) (h : Rw K B t H0 M0 (Γ.set i (some (.lst ds))) (Ω.eraseIdx j) P) : Rw K B t H0 M0 Γ Ω P := fun σ H E s x k1 k2 k3 k4 =>
  have gone : Go M0 Ω (Ω.eraseIdx j) H H := ⟨fun a o e => (hid_get e).2, fun q hq => .inl (by
    obtain ⟨c, hc, e1⟩ := List.mem_map.mp hq
    exact List.mem_map.mpr ⟨c, List.mem_of_mem_eraseIdx hc, e1⟩), fun a h => h⟩
  h σ H E ⟨s.r, s.lessGood, s.m0, fun q hq => s.fr q (by
    obtain ⟨c, hc, e1⟩ := List.mem_map.mp hq
    exact List.mem_map.mpr ⟨c, List.mem_of_mem_eraseIdx hc, e1⟩), by
      rw [keysO_erase]
      exact s.nd.sublist (List.eraseIdx_sublist _ _), fun q c hc => (s.cell q c (List.mem_of_mem_eraseIdx hc)).sub (fun o e => e) less_sub⟩ (s.lend x hi hj) (fun σ2 H2 Γ2 Ω2 g2 => k1 σ2 H2 Γ2 Ω2 (gone.trans g2)) k2 (fun σ2 H2 Γ2 Ω2 g2 => k3 σ2 H2 Γ2 Ω2 (gone.trans g2)) fun σ2 H2 Γ2 Ω2 g2 => k4 σ2 H2 Γ2 Ω2 (gone.trans g2)
/-- a test that reads the list -/
theorem rw_ifL {i j : Nat} {p : Addr} {ds : List D} (hi : Γ[i]? = some (some (.obj p))) (hj : Ω[j]? = some (p, .lst ds)) (h : EvT K B c (Γ.set i (some (.lst ds))) fun k => if k = true then Rw K B t H0 M0 Γ Ω P else Rw K B u H0 M0 Γ Ω P) : Rw K B (tIfS c t u) H0 M0 Γ Ω P := fun σ H E s x k1 k2 k3 k4 =>
  h _ σ H _ s.lessGood (s.lend x hi hj) fun k H1 r p => by
    cases k with
    | true =>
      rw [if_pos rfl] at p ⊢
      exact p σ H1 E (s.step r) (x.r s.good r) (fun σ2 H2 Γ2 Ω2 g2 => k1 σ2 H2 Γ2 Ω2 ((r.go s.m0 s).trans g2)) k2 (fun σ2 H2 Γ2 Ω2 g2 => k3 σ2 H2 Γ2 Ω2 ((r.go s.m0 s).trans g2)) fun σ2 H2 Γ2 Ω2 g2 => k4 σ2 H2 Γ2 Ω2 ((r.go s.m0 s).trans g2)
    | false =>
      rw [if_neg Bool.false_ne_true] at p ⊢
      exact p σ H1 E (s.step r) (x.r s.good r) (fun σ2 H2 Γ2 Ω2 g2 => k1 σ2 H2 Γ2 Ω2 ((r.go s.m0 s).trans g2)) k2 (fun σ2 H2 Γ2 Ω2 g2 => k3 σ2 H2 Γ2 Ω2 ((r.go s.m0 s).trans g2)) fun σ2 H2 Γ2 Ω2 g2 => k4 σ2 H2 Γ2 Ω2 ((r.go s.m0 s).trans g2)
/-- a loop that changes what is owned, by an invariant over the turns; what is owned stays the same -/
theorem rw_for (hi : EvI K B wi Γ fun ds => ∃ I : Nat → Gam → Own → Prop, I 0 Γ Ω ∧ (∀ i Γ1 Ω1, I i Γ1 Ω1 → keysO Ω1 = keysO Ω) ∧
      (∀ i d Γ1 Ω1, ds[i]? = some d → I i Γ1 Ω1 → ∃ vs, EvG K B g vs Γ1 d fun Γ2 => Rw K B t H0 M0 Γ2 Ω1 { P with nx := I (i + 1), ct := I (i + 1), bk := P.nx }) ∧
      ∀ Γ1 Ω1, I ds.length Γ1 Ω1 → P.nx Γ1 Ω1) : Rw K B (tFor wi g t) H0 M0 Γ Ω P := fun σ H E s x k1 k2 k3 k4 =>
  hi _ σ H _ s.good x fun J H1 ds r1 ⟨I, i0, ik, it, ie⟩ wk => by
    have s1 := s.step r1
    have w := wk (keysO Ω ++ M0) (fun _ h => h) fun _ h => .inl h
    have go1 : Go M0 Ω Ω H H1 := r1.go s.m0 s
    refine ⟨fun i m σ2 H2 => m = ds.length - i ∧ i ≤ ds.length ∧ ∃ Γ2 Ω2, Go M0 Ω Ω2 H1 H2 ∧ StO K B H0 M0 H2 Ω2 ∧ EnvOk K (keysO Ω2 ++ M0) H2 σ2 Γ2 ∧ I i Γ2 Ω2, ⟨ds.length, by simp, Nat.zero_le _, Γ, Ω, Go.refl, s1, x.r s.good r1, i0⟩, ?_⟩
    rintro i m σ2 H2 ⟨rfl, hil, Γ2, Ω2, go2, s2, x2, hI⟩
    have ek := ik i Γ2 Ω2 hI
    obtain ⟨wy, ws⟩ := w H2 (by rw [← ek]; exact s2.good) go2.v
    by_cases hlt : i < ds.length
    · have hd : ds[i]? = some ds[i] := List.getElem?_eq_getElem hlt
      obtain ⟨wg, wn⟩ := wy i _ hd
      refine .inr ⟨wg, fun σ3 H3 => ∃ Γ3 Ω3, Go M0 Ω Ω3 H1 H3 ∧ StO K B H0 M0 H3 Ω3 ∧ EnvOk K (keysO Ω3 ++ M0) H3 σ3 Γ3 ∧ I (i + 1) Γ3 Ω3, fun σ' H' h' => ⟨ds.length - (i + 1), by omega, rfl, hlt, h'⟩, fun v H3 hy => ?_⟩
      obtain ⟨r3, dv⟩ := wn v H3 hy
      have s3 := s2.step r3
      obtain ⟨vs, eg⟩ := it i _ Γ2 Ω2 hd hI
      have go3 := go2.trans (r3.go s.m0 s2)
      refine eg (keysO Ω2 ++ M0) σ2 H3 v _ s3.good (x2.r s2.good r3) (by rw [ek]; exact dv) fun σ' Γ' pg x4 _ _ => ?_
      refine pg σ' H3 _ s3 x4 (fun σ5 H5 Γ5 Ω5 g5 s5 x5 p5 => ?_) (fun v H5 d r5 p5 d5 => ?_) (fun σ5 H5 Γ5 Ω5 g5 s5 x5 p5 => ?_) fun σ5 H5 Γ5 Ω5 g5 s5 x5 p5 => ?_
      · exact ⟨Γ5, Ω5, go3.trans g5, s5, x5, p5⟩
      · exact k2 v H5 d r5 p5 d5
      · exact k1 σ5 H5 Γ5 Ω5 ((go1.trans go3).trans g5) s5 x5 p5
      · exact ⟨Γ5, Ω5, go3.trans g5, s5, x5, p5⟩
    · have e : i = ds.length := by omega
      subst e
      exact .inl ⟨ws, k1 σ2 H2 Γ2 Ω2 (go1.trans go2) s2 x2 (ie Γ2 Ω2 hI)⟩
end
/-- a def's body in this logic -/
theorem run_own {K : PySem.W.Frag} {B : Bx} {M : List Addr} {H : Hp} {t : TS} {N : List Str} {ds : List D} {vs : List V} {P : D → Prop} {Q : VK} (g : Good K B M H) (hd : DenAll K (hid M H) ds vs) (q : ∀ v H' d, R K B H H' → P d → Den K (hid M H') d v → Q v H')
    (h : Rw K B t H M (startG N.length ds) [] { nx := fun _ _ => P .non, rt := P }) : t { nx := fun _ H' => Q .non H', rt := Q } (L2.start N vs) H := by
  refine h (L2.start N vs) H _ ⟨g.refl, g, g, fun p hp => (by cases hp), List.nodup_nil, fun p c hc => (by cases hc)⟩ (startG_ok hd) (fun σ' H' Γ' Ω' _ s' _ p => q _ H' _ s'.r p .non) (fun v H' d r p dn => q v H' d r p dn) (fun _ _ _ _ _ _ _ p => False.elim p) fun _ _ _ _ _ _ _ p => False.elim p
/-- a target of any form -/
theorem rn_asg {K : PySem.W.Frag} {B : Bx} {Γ : Gam} {te : TE} {g : TG} {P : Pst} (vs : List Nat) (h : Ev K B te Γ fun d => EvG K B g vs Γ d P.nx) : Rn K B (tAsg te g) Γ P := fun M σ H E gd x k1 k2 k3 k4 =>
  h M σ H _ gd x fun v H1 d r p dn => p M σ H1 v _ (gd.r r) (x.r gd r) dn fun σ' Γ' pg x' _ _ => k1 σ' H1 Γ' r pg x'
theorem ev_catT {K : PySem.W.Frag} {B : Bx} {Γ : Gam} {ta tb : TE} {P : D → Prop} (h : Ev K B ta Γ fun d => Ev K B tb Γ fun e => ∃ xs ys, d = .tup xs ∧ e = .tup ys ∧ xs ≠ [] ∧ ys ≠ [] ∧ xs.length + ys.length ≤ sizeLine ∧ P (.tup (xs ++ ys))) : Ev K B (tOp (rCatT K) ta tb) Γ P :=
  ev_op (h.mono fun d hd => hd.mono fun e ⟨xs, ys, e1, e2, nx, ny, hl, p⟩ => fun M H x y Q gd dx dy q => by
    subst e1 e2
    cases dx with
    | @tup a us _ h1 h2 =>
      cases dy with
      | @tup b ws _ h3 h4 =>
        have lx := h2.length
        have ly := h4.length
        refine ⟨a, b, us, ws, rfl, rfl, SqT.sub hid_sub h1, SqT.sub hid_sub h3, fun z => nx ?_, by rw [← lx, ← ly]; exact hl, fun z => absurd ?_ ny, fun _ p' hp => ?_⟩
        · rw [z] at lx
          exact List.length_eq_zero_iff.mp lx
        · rw [z] at ly
          exact List.length_eq_zero_iff.mp ly
        · exact q _ _ (.tup (xs ++ ys)) (gd.new hp) p (.tup (.inl (.inl (hid_of (gd.fresh hp) upd_same))) (gd.dens (gd.new hp) (h2.app h4))))
end DL

set_option maxHeartbeats 2000000
/-! Dicts with keys ints and texts, over data: displays, d[k], k in d. -/
namespace DL
open PySem PySem.Spec PyProof.Rows L2 RZ XE
def keyD : Key → D
  | .inl i => .int i
  | .inr x => .str x
theorem keyD_den {K : PySem.W.Frag} {H : Hp} {k : Key} {v : V} (h : Den K H (keyD k) v) : v = kV k := by
  cases k with
  | inl i =>
    have h' : Den K H (.int i) v := h
    cases h'
    rfl
  | inr x =>
    have h' : Den K H (.str x) v := h
    cases h'
    rfl
def lookK (ks : List Key) (ds : List D) (k : Key) : Option D := ((ks.zip ds).find? fun p => decide (p.1 = k)).map (·.2)
section
variable {K : PySem.W.Frag} {B : Bx} {H : Hp} {Γ : Gam} {td ty : TE} {P : D → Prop}
theorem lookK_den : ∀ {ks : List Key} {vs : List V} {ds : List D} {k : Key}, ks.length = vs.length → DenAll K H ds vs → (∀ d, lookK ks ds k = some d → ∃ v, valV (ks.zip vs) k = some v ∧ Den K H d v) ∧ (lookK ks ds k = none → valV (ks.zip vs) k = none)
  | [], vs, ds, k, hl, dn => by
    refine ⟨fun d e => ?_, fun _ => ?_⟩
    · simp [lookK] at e
    · simp [valV]
  | m :: ks, [], ds, k, hl, dn => by simp at hl
  | m :: ks, w :: vs, _, k, hl, dn => by
    cases dn with
    | @cons _ _ d0 ds h1 h2 =>
      have ih := lookK_den (k := k) (ks := ks) (vs := vs) (ds := ds) (by simpa using hl) h2
      by_cases e : m = k
      · have a1 : lookK (m :: ks) (d0 :: ds) k = some d0 := by simp [lookK, e]
        rw [List.zip_cons_cons, valV_pos (p := (m, w)) e, a1]
        exact ⟨fun d q => ⟨w, rfl, (Option.some.inj q) ▸ h1⟩, fun q => by cases q⟩
      · have a1 : lookK (m :: ks) (d0 :: ds) k = lookK ks ds k := by simp [lookK, e]
        rw [List.zip_cons_cons, valV_neg (p := (m, w)) e, a1]
        exact ih
/-- d[k] -/
theorem ev_dget (h : Ev K B td Γ fun d => Ev K B ty Γ fun e => ∃ fz ks ds k y, d = .dK fz ks ds ∧ e = keyD k ∧ lookK ks ds k = some y ∧ P y) : Ev K B (tDGet td ty) Γ P := fun M σ H Q g x q =>
  h M σ H _ g x fun v H1 d r1 p1 d1 => p1 M σ H1 _ (g.r r1) (x.r g r1) fun u H2 e r2 ⟨fz, ks, ds, k, y, e1, e2, hl, p⟩ d2 => by
    subst e1 e2
    have ek := keyD_den d2
    subst ek
    obtain ⟨a, vs, ev, ha, ln, dn⟩ := ((g.r r1).den r2 d1).rdK
    subst ev
    obtain ⟨w, hw, dw⟩ := (lookK_den (k := k) ln dn).1 y hl
    refine ⟨a, w, rfl, .inl ⟨_, k, rd_hid ha, rfl, hw.symm⟩, q w H2 y (r1.trans r2) p dw⟩
theorem look_some {fz : Bool} {ks : List Key} {ds : List D} {vs : List V} {k : Key} {H : Hp} (ln : ks.length = vs.length) (dn : DenAll K H ds vs) : (valV (ks.zip vs) k).isSome = (lookK ks ds k).isSome := by
  have z := lookK_den (k := k) ln dn
  cases hh : lookK ks ds k with
  | none => rw [z.2 hh]; rfl
  | some y =>
    obtain ⟨w, hw, _⟩ := z.1 y hh
    rw [hw]; rfl
/-- k in d -/
theorem ev_din (h : Ev K B ty Γ fun e => Ev K B td Γ fun d => ∃ fz ks ds k, d = .dK fz ks ds ∧ e = keyD k ∧ P (.bl (lookK ks ds k).isSome)) : Ev K B (tDIn ty td) Γ P := fun M σ H Q g x q =>
  h M σ H _ g x fun u H1 e r1 p1 d1 => p1 M σ H1 _ (g.r r1) (x.r g r1) fun v H2 d r2 ⟨fz, ks, ds, k, e1, e2, p⟩ d2 => by
    subst e1 e2
    have ek := keyD_den d1
    subst ek
    obtain ⟨a, vs, ev, ha, ln, dn⟩ := d2.rdK
    subst ev
    refine ⟨a, valV (ks.zip vs) k, rfl, .inl ⟨_, k, rd_hid ha, rfl, rfl⟩, ?_⟩
    rw [look_some (fz := fz) ln dn]
    exact q _ H2 _ (r1.trans r2) p (.bl _)
/-- k not in d -/
theorem ev_dnotin (h : Ev K B ty Γ fun e => Ev K B td Γ fun d => ∃ fz ks ds k, d = .dK fz ks ds ∧ e = keyD k ∧ P (.bl (!(lookK ks ds k).isSome))) : Ev K B (tDNotIn ty td) Γ P := fun M σ H Q g x q =>
  h M σ H _ g x fun u H1 e r1 p1 d1 => p1 M σ H1 _ (g.r r1) (x.r g r1) fun v H2 d r2 ⟨fz, ks, ds, k, e1, e2, p⟩ d2 => by
    subst e1 e2
    have ek := keyD_den d1
    subst ek
    obtain ⟨a, vs, ev, ha, ln, dn⟩ := d2.rdK
    subst ev
    refine ⟨a, valV (ks.zip vs) k, rfl, .inl ⟨_, k, rd_hid ha, rfl, rfl⟩, ?_⟩
    rw [look_some (fz := fz) ln dn]
    exact q _ H2 _ (r1.trans r2) p (.bl _)
/-- the pairs of a display -/
def EvP (K : PySem.W.Frag) (B : Bx) (trs : List (TE × TE)) (Γ : Gam) (P : List Key → List D → Prop) : Prop := ∀ (M : List Addr) (σ : L2.St) (H : Hp) (Q : List (V × V) → Hp → Prop), Good K B M H → EnvOk K M H σ Γ →
  (∀ ks vs ds H', R K B H H' → P ks ds → ks.length = vs.length → DenAll K (hid M H') ds vs → Q ((ks.zip vs).map fun kv => (kV kv.1, kv.2)) H') → tPairs trs σ H Q
theorem ep_nil {P : List Key → List D → Prop} (p : P [] []) : EvP K B [] Γ P := fun M σ H Q g x q => q [] [] [] H g.refl p rfl .nil
theorem ep_cons {tk tv : TE} {trs : List (TE × TE)} {P : List Key → List D → Prop} (h : Ev K B tk Γ fun e => ∃ k, e = keyD k ∧ Ev K B tv Γ fun d => EvP K B trs Γ fun ks ds => P (k :: ks) (d :: ds)) : EvP K B ((tk, tv) :: trs) Γ P := fun M σ H Q g x q =>
  h M σ H _ g x fun u H1 e r1 ⟨k, e1, p1⟩ d1 => by
    subst e1
    have ek := keyD_den d1
    subst ek
    exact p1 M σ H1 _ (g.r r1) (x.r g r1) fun v H2 d r2 p2 d2 => p2 M σ H2 _ ((g.r r1).r r2) ((x.r g r1).r (g.r r1) r2) fun ks vs ds H3 r3 p3 ln dn =>
      q (k :: ks) (v :: vs) (d :: ds) H3 ((r1.trans r2).trans r3) p3 (by rw [List.length_cons, List.length_cons, ln]) (.cons (((g.r r1).r r2).den r3 d2) dn)
theorem mergeK_new : ∀ (more acc : List (Key × V)), (more.map (·.1)).Nodup → (∀ p, p ∈ more → ∀ r, r ∈ acc → r.1 ≠ p.1) → mergeK acc more = acc ++ more
  | [], acc, _, _ => by rw [List.append_nil]; rfl
  | p :: more, acc, nd, ne => by
    have n1 := List.nodup_cons.mp nd
    have e : putK acc p.1 p.2 = acc ++ [p] := by
      unfold putK
      rw [if_neg (by
        rw [List.any_eq_true]
        rintro ⟨r, hr, hd⟩
        exact ne p List.mem_cons_self r hr (of_decide_eq_true hd))]
    show mergeK (putK acc p.1 p.2) more = _
    rw [e, mergeK_new more (acc ++ [p]) n1.2 (fun p2 h2 r hr => by
      rcases List.mem_append.mp hr with hr | hr
      · exact ne p2 (List.mem_cons_of_mem _ h2) r hr
      · rw [List.mem_singleton.mp hr]
        exact fun z => n1.1 (List.mem_map.mpr ⟨p2, h2, z.symm⟩)), List.append_assoc]
    rfl
/-- {k: v, ..}, the keys all unlike -/
theorem ev_disp {trs : List (TE × TE)} (h : EvP K B trs Γ fun ks ds => ks.Nodup ∧ ks.length ≤ 15 ∧ P (.dK false ks ds)) : Ev K B (tDisp trs) Γ P := fun M σ H Q g x q => fun a ha => by
  have g1 : Good K B (a :: M) (upd H a (.dK [])) := g.own ha
  have x1 : EnvOk K (a :: M) (upd H a (.dK [])) σ Γ := x.sub (hid_own ha)
  refine h (a :: M) σ _ _ g1 x1 fun ks vs ds H' r ⟨nd, hz, p⟩ ln dn => ?_
  have nb := g.fresh_b ha
  have nl := g.fresh_l ha
  refine ⟨r.2 a _ upd_same nb, ks.zip vs, rfl, by rw [List.length_zip]; omega, ?_⟩
  have em : mergeK [] (ks.zip vs) = ks.zip vs := by
    rw [mergeK_new _ _ (by rw [List.map_fst_zip (by omega)]; exact nd) (fun _ _ r hr => by cases hr), List.nil_append]
  rw [em]
  have ha' := r.2 a _ upd_same nb
  have r2 : R K B H (upd H' a (.dK (ks.zip vs))) := ((g.new ha).trans r).putNew ha nb nl (.of ha' fun φ z => by cases z)
  refine q _ _ (.dK false ks ds) r2 p (.dK (hid_of (g.fresh ha) upd_same) ln ?_)
  refine DenAll.sub (fun b o e => ?_) _ _ dn
  obtain ⟨n, qb⟩ := hid_get e
  exact hid_of (fun z => n (List.mem_cons_of_mem _ z)) (by rw [upd_ne (fun z => n (by rw [z]; exact List.mem_cons_self))]; exact qb)
end
section
variable {K : PySem.W.Frag} {B : Bx} {H0 H H1 : Hp} {M0 : List Addr} {Γ : Gam} {Ω : Own} {P : Pso} {td ty tv : TE} {t : TS}
def cellD : Cell → D
  | .lst ds => .lst ds
  | .dK ks ds => .dK false ks ds
  | .dT ks ds => .dT false ks ds
theorem CellOk.den {M : List Addr} {p : Addr} {c : Cell} (x : CellOk K M H p c) (n : p ∉ M) : Den K (hid M H) (cellD c) (.ref p) := by
  cases c with
  | lst ds =>
    obtain ⟨vs, h1, h2⟩ := x
    exact .lst (hid_of n h1) h2
  | dK ks ds =>
    obtain ⟨vs, h1, h2, h3⟩ := x
    exact .dK (hid_of n h1) h2 h3
  | dT ks ds =>
    obtain ⟨vs, h1, h2, h3⟩ := x
    exact .dT (hid_of n h1) h2 h3
/-- read as data for a while -/
theorem StO.lendC {i j : Nat} {p : Addr} {c : Cell} {σ : L2.St} (s : StO K B H0 M0 H Ω) (x : EnvOk K (keysO Ω ++ M0) H σ Γ) (hi : Γ[i]? = some (some (.obj p))) (hj : Ω[j]? = some (p, c)) : EnvOk K (keysO (Ω.eraseIdx j) ++ M0) H σ (Γ.set i (some (cellD c))) := by
  obtain ⟨vi, h1, h2⟩ := x.at_ i _ hi
  cases h2
  have cc := (s.cell p c (List.mem_of_getElem? hj)).sub (M' := keysO (Ω.eraseIdx j) ++ M0) (H1 := H) (fun o e => e) less_sub
  have z := (x.sub (H1 := H) (M' := keysO (Ω.eraseIdx j) ++ M0) less_sub).set (i := i) (cc.den (s.notin hj))
  have e : σ.set i (some (V.ref p)) = σ := by
    apply List.ext_getElem?
    intro k
    by_cases ek : i = k
    · subst ek
      rw [List.getElem?_set_self (List.getElem?_eq_some_iff.mp h1).1, h1]
    · rw [List.getElem?_set_ne ek]
  rw [e] at z
  exact z
/-- from here on it is data -/
theorem rw_giveC {i j : Nat} {p : Addr} {c : Cell} (hi : Γ[i]? = some (some (.obj p))) (hj : Ω[j]? = some (p, c)) (h : Rw K B t H0 M0 (Γ.set i (some (cellD c))) (Ω.eraseIdx j) P) : Rw K B t H0 M0 Γ Ω P := fun σ H E s x k1 k2 k3 k4 =>
  have sub1 : ∀ q, q ∈ keysO (Ω.eraseIdx j) → q ∈ keysO Ω := fun q hq => by
    obtain ⟨c, hc, e1⟩ := List.mem_map.mp hq
    exact List.mem_map.mpr ⟨c, List.mem_of_mem_eraseIdx hc, e1⟩
  have gone : Go M0 Ω (Ω.eraseIdx j) H H := ⟨fun a o e => (hid_get e).2, fun q hq => .inl (sub1 q hq), fun a h => h⟩
  have s2 : StO K B H0 M0 H (Ω.eraseIdx j) := ⟨s.r, s.lessGood, s.m0, fun q hq => s.fr q (sub1 q hq), by
    rw [keysO_erase]
    exact s.nd.sublist (List.eraseIdx_sublist _ _), fun q c hc => (s.cell q c (List.mem_of_mem_eraseIdx hc)).sub (fun o e => e) less_sub⟩
  h σ H E s2 (s.lendC x hi hj) (fun σ2 H2 Γ2 Ω2 g2 => k1 σ2 H2 Γ2 Ω2 (gone.trans g2)) k2 (fun σ2 H2 Γ2 Ω2 g2 => k3 σ2 H2 Γ2 Ω2 (gone.trans g2)) fun σ2 H2 Γ2 Ω2 g2 => k4 σ2 H2 Γ2 Ω2 (gone.trans g2)
theorem StO.old (s : StO K B H0 M0 H Ω) {a : Addr} (ha : H a = none) : H0 a = none := s.r.none s.m0 ha
/-- x = {..}, to be changed later on -/
theorem rw_ownD {i : Nat} {trs : List (TE × TE)} (h : EvP K B trs Γ fun ks ds => ks.Nodup ∧ ks.length ≤ 15 ∧ ∀ p, P.nx (Γ.set i (some (.obj p))) ((p, .dK ks ds) :: Ω)) : Rw K B (tAsg (tDisp trs) (gName i)) H0 M0 Γ Ω P := fun σ H E s x k1 k2 k3 k4 => fun a ha => by
  have g1 : Good K B (a :: (keysO Ω ++ M0)) (upd H a (.dK [])) := s.good.own ha
  refine h (a :: (keysO Ω ++ M0)) σ _ _ g1 (x.sub (hid_own ha)) fun ks vs ds H' r ⟨nd, hz, p⟩ ln dn => ?_
  have nb := s.good.fresh_b ha
  have nl := s.good.fresh_l ha
  refine ⟨r.2 a _ upd_same nb, ks.zip vs, rfl, by rw [List.length_zip]; omega, ?_⟩
  have em : mergeK [] (ks.zip vs) = ks.zip vs := by
    rw [mergeK_new _ _ (by rw [List.map_fst_zip (by omega)]; exact nd) (fun _ _ r hr => by cases hr), List.nil_append]
  rw [em]
  have ha' := r.2 a _ upd_same nb
  have nc : NoCode H' a := .of ha' fun φ z => by cases z
  have r2 : R K B H (upd H' a (.dK (ks.zip vs))) := ((s.good.new ha).trans r).putNew ha nb nl nc
  have old := r2.two
  have na : a ∉ keysO Ω ++ M0 := s.good.fresh ha
  have hp : hid (a :: (keysO Ω ++ M0)) (upd H' a (.dK (ks.zip vs))) = hid (a :: (keysO Ω ++ M0)) H' := hid_put List.mem_cons_self
  have su : ∀ b o, hid (keysO Ω ++ M0) H b = some o → hid (a :: (keysO Ω ++ M0)) (upd H' a (.dK (ks.zip vs))) b = some o := fun b o e => by
    obtain ⟨n, q⟩ := hid_get e
    refine hid_of (fun z => ?_) (old b o q (s.good.no n))
    rcases List.mem_cons.mp z with z | z
    · exact ne_of_none q ha z
    · exact n z
  refine k1 _ _ _ ((a, .dK ks ds) :: Ω) ⟨fun b o e => (hid_get (su b o e)).2, fun q hq => (List.mem_cons.mp hq).elim (fun e => .inr (by rw [e]; exact ha)) .inl, fun b hb z => hb (r2.none s.good z)⟩
    ⟨s.r.trans r2, (g1.r r).putOwn nb nl nc (s.good.h0 ha), s.m0, fun q hq => ?_, List.nodup_cons.mpr ⟨fun z => na (List.mem_append_left _ z), s.nd⟩, fun q c hc => ?_⟩ ((x.sub su).set (.obj a)) (p a)
  · rcases List.mem_cons.mp hq with e | hq
    · rw [e]; exact s.old ha
    · exact s.fr q hq
  · rcases List.mem_cons.mp hc with e | hc
    · obtain ⟨e1, e2⟩ := Prod.mk.inj e
      subst e1 e2
      exact ⟨vs, upd_same, ln, by rw [show keysO ((q, Cell.dK ks ds) :: Ω) ++ M0 = q :: (keysO Ω ++ M0) from rfl, hp]; exact dn⟩
    · exact (s.cell q c hc).sub (fun o e => old q o e (s.nb (List.mem_map.mpr ⟨(q, c), hc, rfl⟩)).1) su
/-- an owned object gets new contents -/
theorem StO.putC {j : Nat} {p : Addr} {c c' : Cell} {o : HO} (s : StO K B H0 M0 H Ω) (hj : Ω[j]? = some (p, c)) (hc : CellOk K (keysO Ω ++ M0) (upd H p o) p c') : StO K B H0 M0 (upd H p o) (Ω.set j (p, c')) := by
  have hk : p ∈ keysO Ω := StO.key hj
  obtain ⟨nb, nl⟩ := s.nb hk
  have hp : hid (keysO Ω ++ M0) (upd H p o) = hid (keysO Ω ++ M0) H := hid_put (List.mem_append_left _ hk)
  have ek := keysO_set (c' := c') hj
  have no : NoCo p o := by
    cases c' with
    | lst ds =>
      obtain ⟨vs, e, _⟩ := hc
      rw [upd_same] at e
      cases Option.some.inj e
      exact ⟨fun q z => (by unfold LamX.CodeO at z; cases z), fun q z => nomatch z⟩
    | dK ks ds =>
      obtain ⟨vs, e, _⟩ := hc
      rw [upd_same] at e
      cases Option.some.inj e
      exact ⟨fun q z => (by unfold LamX.CodeO at z; cases z), fun q z => nomatch z⟩
    | dT ks ds =>
      obtain ⟨vs, e, _⟩ := hc
      rw [upd_same] at e
      cases Option.some.inj e
      exact ⟨fun q z => (by unfold LamX.CodeO at z; cases z), fun q z => nomatch z⟩
  refine ⟨s.r.putNew (s.fr p hk) nb nl (s.nc hk), by rw [ek]; exact s.good.putOwn nb nl (s.nc hk) (s.h0 hk) no, s.m0, fun q hq => s.fr q (by rw [ek] at hq; exact hq), by rw [ek]; exact s.nd, fun q d hd => ?_⟩
  · rw [ek]
    obtain ⟨k, hkq⟩ := List.getElem?_of_mem hd
    by_cases e : j = k
    · subst e
      rw [List.getElem?_set_self (List.getElem?_eq_some_iff.mp hj).1] at hkq
      obtain ⟨e1, e2⟩ := Prod.mk.inj (Option.some.inj hkq)
      subst e1 e2
      exact hc
    · rw [List.getElem?_set_ne e] at hkq
      have ne : q ≠ p := fun z => by
        have h1 : (keysO Ω)[k]? = some q := by rw [keysO, List.getElem?_map, hkq]; rfl
        have h2 : (keysO Ω)[j]? = some p := by rw [keysO, List.getElem?_map, hj]; rfl
        exact e (nd_inj s.nd h2 (by rw [h1, z]))
      exact (s.cell q d (List.mem_of_getElem? hkq)).sub (fun u hu => by rw [upd_ne ne]; exact hu) fun b u hb => by rw [hp]; exact hb
/-- d[k] = e, k a new key -/
theorem rw_dput {i j : Nat} {p : Addr} {ks : List Key} {ds : List D} (hi : Γ[i]? = some (some (.obj p))) (hj : Ω[j]? = some (p, .dK ks ds)) (hz : ks.length < sizeLine)
    (h : Ev K B tv Γ fun d => Ev K B ty Γ fun e => ∃ k, e = keyD k ∧ k ∉ ks ∧ P.nx Γ (Ω.set j (p, .dK (ks ++ [k]) (ds ++ [d])))) : Rw K B (sDPut (tVar i) ty tv) H0 M0 Γ Ω P := fun σ H E s x k1 k2 k3 k4 => by
  refine h _ σ H _ s.good x fun v H1 d r1 p1 d1 => ?_
  have s1 := s.step r1
  have x1 := x.r s.good r1
  obtain ⟨vi, h1, h2⟩ := x1.at_ i _ hi
  cases h2
  refine ⟨_, h1, ?_⟩
  refine p1 _ σ H1 _ s1.good x1 fun u H2 e r2 ⟨k, e1, nk, pn⟩ d2 => ?_
  subst e1
  have ek := keyD_den d2
  subst ek
  have s2 := s1.step r2
  have d1' := s1.good.den r2 d1
  obtain ⟨vs, hp, ln, dv⟩ := s2.cell p _ (List.mem_of_getElem? hj)
  have hq : ∀ o, hid (keysO Ω ++ M0) (upd H2 p o) = hid (keysO Ω ++ M0) H2 := fun o => hid_put (List.mem_append_left _ (StO.key hj))
  have ep : putK (ks.zip vs) k v = (ks ++ [k]).zip (vs ++ [v]) := by
    unfold putK
    rw [if_neg (by
      rw [List.any_eq_true]
      rintro ⟨r, hr, hd⟩
      have := (List.of_mem_zip (show (r.1, r.2) ∈ ks.zip vs from hr)).1
      rw [of_decide_eq_true hd] at this
      exact nk this), List.zip_append ln]
    rfl
  refine ⟨p, _, rfl, .inl ⟨ks.zip vs, k, hp, rfl, by rw [List.length_zip]; omega, rfl⟩, ?_⟩
  rw [ep]
  refine k1 _ _ Γ (Ω.set j (p, .dK (ks ++ [k]) (ds ++ [d]))) (((r1.go s.m0 s).trans (r2.go s.m0 s1)).trans (Go.upd hj (keysO_set hj))) (s2.putC hj ⟨vs ++ [v], upd_same, by rw [List.length_append, List.length_append, ln]; rfl, by rw [hq]; exact dv.snoc d1'⟩) ?_ pn
  rw [keysO_set hj]
  exact (x1.r s1.good r2).sub fun b o hb => by rw [hq]; exact hb
end
end DL

set_option maxHeartbeats 2000000
/-! Rules of the machine that the hand layer lacks: static methods, written dicts (in, get), tuple.count, items of a dict that is locked on the way. -/
namespace RD
open PySem PySem.Spec PyProof.Rows L2
/-! ### static methods -/
structure SMet (K : PySem.W.Frag) (C : Addr) (mc : Value) (m : Str) (p g : Addr) : Prop where
  at_ : PySem.W.findCls K (.ref C) mc m = some (.get (.builtin "staticmethod.__get__") (.ref p) .none (.ref C))
  rc : ∃ rest, PySem.W.recIn K p "staticmethod" = some (.ref g :: rest)
  kp : PySem.W.keepIn K (.ref g) = true
section
variable {X : Cx} {pins : List (Addr × Obj)} {σ : L2.St} {H : Hp} {s : Shared} {a C p g : Addr} {mc : Value} {m : Str} {A : Around} {E : Value → Shared → Prop}
theorem getsm_ok {b : Bool} {Q : Value → Shared → Prop} (I : Inv X pins σ H s) (r : ClX.CRead X.K C mc) (k : SMet X.K C mc m p g)
    (h : ∀ s', Inv X pins σ H s' → Q (.ref g) s') : wpAny (model X.prog X.w) A (getAttr (.ref C) m b) Q E s := by
  obtain ⟨rest, hp⟩ := k.rc
  refine PySem.W.cls_bind I.kIn r.rd k.at_ ?_
  refine wpAny_call (PySem.W.sm_get (s := { s with toks := s.toks + 1 }) I.kIn hp (PySem.W.handed_on rfl ?_))
  exact h _ (I.tok _)
theorem getmethsm_ok {pl : Sem Bool} {Q : Value × List Value → Shared → Prop} (I : Inv X pins σ H s) (r : ClX.CRead X.K C mc) (k : SMet X.K C mc m p g)
    (h : ∀ s', Inv X pins σ H s' → Q (.ref g, []) s') : wpAny (model X.prog X.w) A (getMethod (.ref C) m pl) Q E s :=
  PySem.W.method_cls I.kIn r.ga (getsm_ok I r k h)
end
/-- e.m(..), e the class at C, m a static method -/
def tSMeth (C : Addr) (sp : Sp) (E : XK) (ta : TE) (t : TA) : TE := fun σ H Q => ta σ H fun x H1 => x = .ref C ∧ t σ H1 fun vs H2 => sp vs H2 Q E
section
variable {X : Cx} {CX : CXT} {k : Nat} {C p g : Addr} {mc : Value} {sp : Sp} {E : XK} {o e : Expr} {es : List Expr} {f m : Str} {pos apos : Pos} {ta : TE} {t : TA} {pl : Sem Bool}
theorem pe_smeth (he : PE X o ta) (r : ClX.CRead X.K C mc) (c : SMet X.K C mc m p g) (F : FnR X.prog X.w X.K X.mg X.base CX k g sp) (hr : Room k X.A) (hx : Passes CX X E) (ha : PA X (e :: es) t)
    (hst : starEach (e :: es) X.env = (false, eval e X.env) :: starEach es X.env := by rfl) (hpl : (backTo pos (starEach es X.env)).any (·.1) = false := by rfl)
    (ht : eval (.Call (.Attribute o m apos) (e :: es) [] pos) X.env = (do
      let ov ← eval o X.env
      standAt apos.atName
      let (f, first) ← holding [ov] (getMethod ov m pl)
      callWith pos f first (backTo pos (starEach (e :: es) X.env)) (backToKw pos (keywordEach [] X.env))) := by rfl) :
    PE X (.Call (.Attribute o m apos) (e :: es) [] pos) (tSMeth C sp E ta t) := by
  refine ⟨fun pins s σ H Q I h => ?_⟩
  refine PySem.W.methodCall_KW (pl := pl) (thn (he.run pins s σ H _ I h) fun u s1 ⟨x, H1, I1, rx, ex, q⟩ => ?_) ht
  subst ex
  obtain rfl : u = Value.ref C := rx
  refine getmethsm_ok I1 r c fun s2 I2 => ?_
  refine PySem.W.callWith_K (h₀ := X.base) I2.ok.mod.kin c.kp (thn (ha.run pos pins s2 σ H1 _ I2 q) fun us s3 ⟨vs, H2, I3, rv, q2⟩ => ⟨I3.kIn, ?_⟩) hst hpl
  exact wpAny_call (run_fnR F hr hx I3 rv q2)
end
/-! ### written dicts -/
/-- a written dict at a, o tells what it holds at the text z -/
structure KD (K : PySem.W.Frag) (w : World) (a : Addr) (z : Str) (o : Option V) : Prop where
  ex : ∃ es n r, K.lookup a = some ⟨.type "dict", none, .dict es n, #[]⟩ ∧ PySem.W.KeysLit w.params es.toList ∧ (a == sysModules) = false ∧ PySem.W.nsIn K a z = some r ∧ RelO o r
section
variable {X : Cx} {K : PySem.W.Frag}
def rKIn (K : PySem.W.Frag) (w : World) (neg : Bool) : R2 := fun x y H Q => ∃ p z o, x = .str z ∧ y = .ref p ∧ KD K w p z o ∧ Q (.bl (if neg then !o.isSome else o.isSome)) H
theorem op_kin : OpR X (compareOp .In) (rKIn X.K X.w false) := by
  intro pins s σ H x y v u Q I rx ry h
  obtain ⟨p, z, o, rfl, rfl, ⟨es, n, r, hl, hk, hs, hn, ro⟩, q⟩ := h
  obtain ⟨t, rfl⟩ := rx
  obtain rfl : u = Value.ref p := ry
  refine wpAny_in_of (strKind_is X.prog X.w z t) hs (PySem.W.mapOf_K (prog := X.prog) (w := X.w) I.kIn hl hk) ?_
  rw [PySem.W.find_K hl hn, ← ro.isSome_eq]
  exact ⟨.bl _, H, I.tok _, rfl, q⟩
theorem op_knotin : OpR X (compareOp .NotIn) (rKIn X.K X.w true) := by
  intro pins s σ H x y v u Q I rx ry h
  obtain ⟨p, z, o, rfl, rfl, ⟨es, n, r, hl, hk, hs, hn, ro⟩, q⟩ := h
  obtain ⟨t, rfl⟩ := rx
  obtain rfl : u = Value.ref p := ry
  refine wpAny_notIn_of (strKind_is X.prog X.w z t) hs (PySem.W.mapOf_K (prog := X.prog) (w := X.w) I.kIn hl hk) ?_
  rw [PySem.W.find_K hl hn, ← ro.isSome_eq]
  exact ⟨.bl _, H, I.tok _, rfl, q⟩
def rKIx (K : PySem.W.Frag) (w : World) : R2 := fun x y H Q => ∃ p z v, x = .ref p ∧ y = .str z ∧ KD K w p z (some v) ∧ Q v H
theorem ix_kd : IxR X (rKIx X.K X.w) := by
  intro value slice pins s σ H x y v u Q I rx ry h hs
  obtain ⟨p, z, r, rfl, rfl, ⟨es, n, u0, hl, hk, lo, e, ru⟩, q⟩ := h
  obtain ⟨u1, e1, ru⟩ := ru.some_of
  subst e1
  exact ix_kdict value slice pins s σ H (.ref p) (.str z) v u Q I rx ry ⟨p, z, r, rfl, rfl, ⟨es, n, u1, hl, hk, e, ru⟩, q⟩ hs
def tKGet2 (K : PySem.W.Frag) (w : World) (td ty tx : TE) : TE := fun σ H Q => td σ H fun x H1 => ∃ a, x = .ref a ∧ (∃ z o, KD K w a z o) ∧ ty σ H1 fun y H2 => tx σ H2 fun d H3 => ∃ z o, y = .str z ∧ KD K w a z o ∧ Q (o.getD d) H3
theorem pe_kget2 {o e f : Expr} {apos cpos : Pos} {td ty tx : TE} (ho : PE X o td) (he : PE X e ty) (hf : PE X f tx) (m : M2 X o "get" apos e f cpos) : PE X (.Call (.Attribute o "get" apos) [e, f] [] cpos) (tKGet2 X.K X.w td ty tx) := by
  refine ⟨fun pins s σ H Q I h => ?_⟩
  refine wpAny_Call_method m.base m.few m.line PySem.F.plainAttrs_dict PySem.F.slot_dict_get PySem.F.type_dict_get (thn (ho.run pins s σ H _ I h) fun u s1 ⟨x, H1, I1, rx, a, ex, ⟨_, _, es, n, _, hl, _⟩, q1⟩ => ?_)
  subst ex
  obtain rfl : u = Value.ref a := rx
  have hob := I1.kIn _ _ hl
  refine ⟨⟨_, hob, rfl⟩, fun b hb => by cases hb; exact ⟨_, hob, rfl⟩, ?_⟩
  rw [m.trees]
  refine Calls.callWith_builtin rfl (Calls.evalArgs_plain (Calls.spliced_cons (thn (he.run pins s1 σ H1 _ I1 q1) fun iv s2 ⟨y, H2, I2, ry, q2⟩ =>
    Calls.spliced_cons (thn (hf.run pins s2 σ H2 _ I2 q2) fun fv s3 ⟨d, H3, I3, rd, z, ov, ey, ⟨es', n', r, hl', hk, lo, hn, ro⟩, q3⟩ => Calls.spliced_nil ?_))))
  subst ey
  obtain ⟨t, rfl⟩ := ry
  have hm := PySem.W.mapOf_K (prog := X.prog) (w := X.w) I3.kIn hl' hk
  refine call_meetsIn PySem.F.slot_dict_get hm.typeIs PySem.F.entry_dict_get (PySem.F.args_dict_get_3 _ _ _) (meets_dict_get_default (strKind X.prog X.w) a (strKind_is X.prog X.w z t) lo fv) ⟨_, hm, ?_⟩
  rw [PySem.W.find_K hl' hn]
  exact ⟨_, H3, I3.tok _, ro.getD rd, q3⟩
/-! ### t.count(x), flat items -/
def rCntT (K : PySem.W.Frag) : V → List V → Hp → VK → Prop := fun x vs H Q => ∃ (p : Addr) (xs : List V) (y : V), x = .ref p ∧ vs = [y] ∧ SqT K H p xs ∧ flatV y = true ∧ xs.all flatV = true ∧ Q (.int ((xs.countP fun z => eqV z y : Nat) : Int)) H
theorem count_eqU {x : V} : ∀ {xs : List V} {us : List Value}, Vals xs us → xs.all flatV = true → us.countP (eqU x) = xs.countP fun y => eqV y x
  | _, _, .nil, _ => rfl
  | y :: xs, u :: us, .cons r t, f => by
    rw [List.all_cons, Bool.and_eq_true] at f
    rw [List.countP_cons, List.countP_cons, eqU_of r f.1, count_eqU t f.2]
theorem mt_tcount : MtR X "tuple.count" (rCntT X.K) := by
  intro pins s σ H x vs v us Q I rx rxs h
  obtain ⟨p, xs, y, rfl, rfl, hs, fy, fs, q⟩ := h
  cases rx
  obtain ⟨u, rfl, ru⟩ := rxs.one
  obtain ⟨its, rv, ⟨⟨cls, dd, data, sl⟩, ho, hc, n, hd⟩, hlen⟩ := I.tuple hs
  simp only at hc hd
  subst hc hd
  refine call_meets PySem.F.slot_tuple_count ⟨_, ho, rfl⟩ PySem.F.entry_tuple_count (PySem.F.args_tuple_count_2 _ _)
    (SeqAt.tuple_countAt p its.toArray n dd sl u (eqU y)) ⟨ho, fun z hz => (mem_eqAt ru fy rv fs z (by simpa using hz)), ?_⟩
  have ec : its.toArray.toList.countP (eqU y) = xs.countP fun z => eqV z y := by simpa using count_eqU rv fs
  refine ⟨.int ((xs.countP fun z => eqV z y : Nat) : Int), H, I.tok _, ⟨s.toks, ?_⟩, q⟩
  show Value.int ((its.toArray.toList.countP (eqU y) : Nat) : Int) s.toks = _
  rw [ec]
end
/-! ### for k, v in e.items(): the dict is locked on the way -/
def tLock (td : TE) : TE := fun σ H Q => td σ H fun x H1 => ∃ d kvs, x = .ref d ∧ H1 d = some (.dK kvs) ∧ ∀ o, Q x (upd H1 d (.frz o (.dK kvs)))
theorem Mut_dK {kvs : List (Key × V)} : Mut (some (.dK kvs)) := by
  first
    | exact True.intro
    | trivial
    | decide
    | (unfold Mut; simp)
section
variable {X : Cx} {elts : List Expr} {kk : Nat} {tpos apos cpos : Pos} {e : Expr} {td : TE}
theorem pe_lock (he : PE X e td) : PE X e (tLock td) := ⟨fun pins s σ H Q I h => by
  refine thn (he.run pins s σ H _ I h) fun u s1 ⟨x, H1, I1, rx, d, kvs, ex, hd, q⟩ => ?_
  obtain ⟨od, I2⟩ := I1.lock hd Mut_dK
  exact ⟨x, _, I2, rx, q od⟩⟩
theorem pi_itemsL (he : PE X e td) (hbase : attributeBase e "items" X.env (eval e X.env) = eval e X.env := by rfl) (hline : (apos.endLine == cpos.line) = true := by rfl) :
    PI X (.Tuple elts kk tpos) (.Call (.Attribute e "items" apos) [] [] cpos) (iItems (tLock td)) := pi_items (pe_lock he) hbase hline
end
end RD

set_option maxHeartbeats 2000000
namespace RD
open PySem PySem.Spec PyProof.Rows L2
section
variable {X : Cx}
def rEqP (K : PySem.W.Frag) : R2 := fun x y H Q => ∃ d e, Dp K H x d ∧ Dp K H y e ∧ d.plain = true ∧ e.plain = true ∧ d.depth ≤ 60 ∧ Q (.bl (PyData.eqv d e)) H
theorem op_eqP (hu : X.A.units + 64 < cLine) : OpR X (compareOp .Eq) (rEqP X.K) := by
  intro pins s σ H x y v u Q I rx ry h
  obtain ⟨d, e, hd, he, sd, se, dp, q⟩ := h
  obtain ⟨as, r1⟩ := Dp.reads I d x v hd rx
  obtain ⟨bs, r2⟩ := Dp.reads I e y u he ry
  have hm : min d.depth e.depth ≤ d.depth := Nat.min_le_left _ _
  exact SeqAt.rcAt_plain r1 r2 sd se (by omega) X.prog X.w X.xe _ ⟨.bl _, H, I, rfl, q⟩
def rNeP (K : PySem.W.Frag) : R2 := fun x y H Q => ∃ d e, Dp K H x d ∧ Dp K H y e ∧ d.plain = true ∧ e.plain = true ∧ d.depth ≤ 60 ∧ Q (.bl (!PyData.eqv d e)) H
theorem op_neP (hu : X.A.units + 64 < cLine) : OpR X (compareOp .NotEq) (rNeP X.K) := by
  intro pins s σ H x y v u Q I rx ry h
  obtain ⟨d, e, hd, he, sd, se, dp, q⟩ := h
  obtain ⟨as, r1⟩ := Dp.reads I d x v hd rx
  obtain ⟨bs, r2⟩ := Dp.reads I e y u he ry
  have hm : min d.depth e.depth ≤ d.depth := Nat.min_le_left _ _
  exact SeqAt.ne_plain r1 r2 sd se (by omega) ⟨.bl _, H, I, rfl, q⟩
theorem ix_kdK (K : PySem.W.Frag) (w : World) (hK : X.K = K := by rfl) (hw : X.w = w := by rfl) : IxR X (rKIx K w) := by
  subst hK hw
  exact ix_kd
theorem call_str_any : CallR X (.type "str") (fun xs H Q => (∃ i, xs = [.int i] ∧ i.natAbs.log2 < 1920 ∧ Q (.str (toString i)) H) ∨ ∃ a, xs = [.str a] ∧ Q (.str a) H) := by
  intro pins s σ H xs us Q I r h
  rcases h with h | h
  · exact call_str_int pins s σ H xs us Q I r h
  · exact SkE.call_str_str pins s σ H xs us Q I r h
end
end RD
namespace DL
open PySem PySem.Spec PyProof.Rows L2 RZ RD
/-! ### plain data -/
/-- plain data, nested at most so deep -/
inductive Pl : Nat → D → Prop
  | non {k : Nat} : Pl k .non
  | bl {k : Nat} (b : Bool) : Pl k (.bl b)
  | int {k : Nat} (i : Int) : Pl k (.int i)
  | str {k : Nat} (x : Str) : Pl k (.str x)
  | lst {k : Nat} {ds : List D} (h : ∀ d, d ∈ ds → Pl k d) (hl : ds.length ≤ 100000) : Pl (k + 1) (.lst ds)
  | tup {k : Nat} {ds : List D} (h : ∀ d, d ∈ ds → Pl k d) (hl : ds.length ≤ 100000) : Pl (k + 1) (.tup ds)
mutual
def pyD : D → PyData
  | .bl b => .bool b
  | .int i => .int i
  | .str x => .str x
  | .lst ds => .list (pyDs ds)
  | .tup ds => .tuple (pyDs ds)
  | _ => .none
def pyDs : List D → List PyData
  | [] => []
  | d :: ds => pyD d :: pyDs ds
end
mutual
/-- none, bools, ints, texts, lists and tuples of such -/
def plD : D → Bool
  | .non => true
  | .bl _ => true
  | .int _ => true
  | .str _ => true
  | .lst ds => plDs ds
  | .tup ds => plDs ds
  | _ => false
def plDs : List D → Bool
  | [] => true
  | d :: ds => plD d && plDs ds
end
mutual
def dpD : D → Nat
  | .lst ds => dpDs ds + 1
  | .tup ds => dpDs ds + 1
  | _ => 0
def dpDs : List D → Nat
  | [] => 0
  | d :: ds => max (dpD d) (dpDs ds)
end
theorem plDs_of : ∀ {ds : List D}, (∀ d, d ∈ ds → plD d = true) → plDs ds = true
  | [], _ => rfl
  | d :: ds, h => by
    show (plD d && plDs ds) = true
    rw [h d List.mem_cons_self, plDs_of fun x hx => h x (List.mem_cons_of_mem _ hx)]; rfl
theorem Pl.pl : ∀ {k : Nat} {d : D}, Pl k d → plD d = true := by
  intro k d h
  induction h with
  | lst h hl ih => exact plDs_of ih
  | tup h hl ih => exact plDs_of ih
  | _ => rfl
theorem dpDs_of {n : Nat} : ∀ {ds : List D}, (∀ d, d ∈ ds → dpD d ≤ n) → dpDs ds ≤ n
  | [], _ => Nat.zero_le _
  | d :: ds, h => by
    show max (dpD d) (dpDs ds) ≤ n
    have h1 := h d List.mem_cons_self
    have h2 := dpDs_of fun x hx => h x (List.mem_cons_of_mem _ hx)
    omega
theorem Pl.dp : ∀ {k : Nat} {d : D}, Pl k d → dpD d ≤ k := by
  intro k d h
  induction h with
  | lst h hl ih => exact Nat.succ_le_succ (dpDs_of ih)
  | tup h hl ih => exact Nat.succ_le_succ (dpDs_of ih)
  | _ => exact Nat.zero_le _
mutual
theorem pyD_plain : ∀ d : D, (pyD d).plain = true
  | .bl _ => rfl
  | .int _ => rfl
  | .str _ => rfl
  | .lst ds => pyDs_plain ds
  | .tup ds => pyDs_plain ds
  | .non => rfl
  | .ty _ => rfl
  | .obj _ => rfl
  | .ins _ _ _ => rfl
  | .dK _ _ _ => rfl
  | .dT _ _ _ => rfl
  | .fn _ _ _ _ _ => rfl
  | .tpz _ => rfl
  | .tph _ => rfl
  | .exc _ _ _ => rfl
theorem pyDs_plain : ∀ ds : List D, PyData.plainAll (pyDs ds) = true
  | [] => rfl
  | d :: ds => by
    show ((pyD d).plain && PyData.plainAll (pyDs ds)) = true
    rw [pyD_plain d, pyDs_plain ds]; rfl
end
mutual
theorem pyD_depth : ∀ d : D, (pyD d).depth ≤ dpD d + 1
  | .bl _ => by simp [pyD, PyData.depth]
  | .int _ => by simp [pyD, PyData.depth]
  | .str _ => by simp [pyD, PyData.depth]
  | .lst ds => by
    have := pyDs_depth ds
    simp only [pyD, PyData.depth, dpD]; omega
  | .tup ds => by
    have := pyDs_depth ds
    simp only [pyD, PyData.depth, dpD]; omega
  | .non => by simp [pyD, PyData.depth]
  | .ty _ => by simp [pyD, PyData.depth]
  | .obj _ => by simp [pyD, PyData.depth]
  | .ins _ _ _ => by simp [pyD, PyData.depth]
  | .dK _ _ _ => by simp [pyD, PyData.depth]
  | .dT _ _ _ => by simp [pyD, PyData.depth]
  | .fn _ _ _ _ _ => by simp [pyD, PyData.depth]
  | .tpz _ => by simp [pyD, PyData.depth]
  | .tph _ => by simp [pyD, PyData.depth]
  | .exc _ _ _ => by simp [pyD, PyData.depth]
theorem pyDs_depth : ∀ ds : List D, PyData.depthAll (pyDs ds) ≤ dpDs ds + 1
  | [] => by simp [pyDs, PyData.depthAll]
  | d :: ds => by
    have h1 := pyD_depth d
    have h2 := pyDs_depth ds
    simp only [pyDs, PyData.depthAll, dpDs]; omega
end
mutual
theorem Den.dp {K : PySem.W.Frag} {H : Hp} : ∀ (d : D) (v : V), plD d = true → Den K H d v → Dp K H v (pyD d)
  | .non, _, _, h => by cases h; exact .non
  | .bl _, _, _, h => by cases h; exact .bl _
  | .int _, _, _, h => by cases h; exact .int _
  | .str _, _, _, h => by cases h; exact .str _
  | .lst ds, _, p, h => by
    cases h with
    | lst h1 h2 => exact .lst (SqL.of h1) (DenAll.dp ds _ p h2)
  | .tup ds, _, p, h => by
    cases h with
    | tup h1 h2 => exact .tup h1 (DenAll.dp ds _ p h2)
  | .ty _, _, p, _ => by cases p
  | .obj _, _, p, _ => by cases p
  | .ins _ _ _, _, p, _ => by cases p
  | .dK _ _ _, _, p, _ => by cases p
  | .dT _ _ _, _, p, _ => by cases p
  | .fn _ _ _ _ _, _, p, _ => by cases p
  | .tpz _, _, p, _ => by cases p
  | .tph _, _, p, _ => by cases p
  | .exc _ _ _, _, p, _ => by cases p
theorem DenAll.dp {K : PySem.W.Frag} {H : Hp} : ∀ (ds : List D) (vs : List V), plDs ds = true → DenAll K H ds vs → DpAll K H vs (pyDs ds)
  | [], _, _, h => by cases h; exact .nil
  | d :: ds, _, p, h => by
    have p' : (plD d && plDs ds) = true := p
    rw [Bool.and_eq_true] at p'
    cases h with
    | cons h1 h2 => exact .cons (Den.dp d _ p'.1 h1) (DenAll.dp ds _ p'.2 h2)
end
section
variable {K : PySem.W.Frag} {B : Bx} {Γ : Gam} {te ta tb tc td ty tx : TE} {tr : TA} {P : D → Prop} {PA : List D → Prop} {w : World} {n : Nat} {F : Bx → List D → (D → Prop) → Prop}
/-- == of plain data -/
theorem ev_eqP (h : Ev K B ta Γ fun d => Ev K B tb Γ fun e => plD d = true ∧ plD e = true ∧ dpD d ≤ 50 ∧ P (.bl (PyData.eqv (pyD d) (pyD e)))) : Ev K B (tOp (rEqP K) ta tb) Γ P :=
  ev_op (h.mono fun d hd => hd.mono fun e ⟨p1, p2, p3, p⟩ => fun M H x y Q g dx dy q =>
    ⟨pyD d, pyD e, (Den.sub hid_sub _ _ dx).dp _ _ p1, (Den.sub hid_sub _ _ dy).dp _ _ p2, pyD_plain d, pyD_plain e, Nat.le_trans (pyD_depth d) (by omega), q _ H _ g.refl p (.bl _)⟩)
theorem ev_neP (h : Ev K B ta Γ fun d => Ev K B tb Γ fun e => plD d = true ∧ plD e = true ∧ dpD d ≤ 50 ∧ P (.bl (!PyData.eqv (pyD d) (pyD e)))) : Ev K B (tOp (rNeP K) ta tb) Γ P :=
  ev_op (h.mono fun d hd => hd.mono fun e ⟨p1, p2, p3, p⟩ => fun M H x y Q g dx dy q =>
    ⟨pyD d, pyD e, (Den.sub hid_sub _ _ dx).dp _ _ p1, (Den.sub hid_sub _ _ dy).dp _ _ p2, pyD_plain d, pyD_plain e, Nat.le_trans (pyD_depth d) (by omega), q _ H _ g.refl p (.bl _)⟩)
theorem eqv_self (d : D) : PyData.eqv (pyD d) (pyD d) = true := SeqAt.eqv_refl_plain _ (pyD_plain d)
/-- a static method -/
theorem ev_smeth {C : Addr} {E0 : XK} (h : EvA K B tr Γ fun ds => ds.length = n ∧ F B ds P) : Ev K B (tSMeth C (SpD K n F) E0 (tC (.ref C)) tr) Γ P := fun M σ H Q g x q =>
  ⟨rfl, h M σ H _ g x fun vs H1 ds r1 ⟨hl, p1⟩ h1 => ⟨by rw [← h1.length]; exact hl, B, M, ds, P, g.r r1, h1, p1, fun v H' d r2 p2 h2 => q v H' d (r1.trans r2) p2 h2⟩⟩
/-- x in a written dict -/
theorem ev_kin {neg : Bool} (h : Ev K B ta Γ fun d => Ev K B tb Γ fun e => ∃ z a o, d = .str z ∧ e = .obj a ∧ KD K w a z o ∧ P (.bl (if neg then !o.isSome else o.isSome))) : Ev K B (tOp (rKIn K w neg) ta tb) Γ P :=
  ev_op (h.mono fun d hd => hd.mono fun e ⟨z, a, o, e1, e2, kd, p⟩ => fun M H x y Q g dx dy q => by
    subst e1 e2; cases dx; cases dy
    exact ⟨a, z, o, rfl, rfl, kd, q _ H _ g.refl p (.bl _)⟩)
/-- a written dict, subscripted -/
theorem ev_kix (h : Ev K B ta Γ fun d => Ev K B tb Γ fun e => ∃ z a v y, d = .obj a ∧ e = .str z ∧ KD K w a z (some v) ∧ (∀ H, Den K H y v) ∧ P y) : Ev K B (tOp (rKIx K w) ta tb) Γ P :=
  ev_op (h.mono fun d hd => hd.mono fun e ⟨z, a, v, yy, e1, e2, kd, hy, p⟩ => fun M H x y Q g dx dy q => by
    subst e1 e2; cases dx; cases dy
    exact ⟨a, z, v, rfl, rfl, kd, q _ H _ g.refl p (hy _)⟩)
/-- its get with a default -/
theorem ev_kget2 (h : Ev K B td Γ fun d => ∃ a, d = .obj a ∧ (∃ z o, KD K w a z o) ∧ Ev K B ty Γ fun e => Ev K B tx Γ fun f => ∃ z o, e = .str z ∧ KD K w a z o ∧ (∀ v, o = some v → ∃ y, (∀ H, Den K H y v) ∧ P y) ∧ (o = none → P f)) :
    Ev K B (tKGet2 K w td ty tx) Γ P := fun M σ H Q g x q =>
  h M σ H _ g x fun v1 H1 d r1 ⟨a, ed, hk, p1⟩ d1 => by
    subst ed; cases d1
    refine ⟨a, rfl, hk, p1 M σ H1 _ (g.r r1) (x.r g r1) fun v2 H2 e r2 p2 d2 => p2 M σ H2 _ ((g.r r1).r r2) (x.r g (r1.trans r2)) fun v3 H3 f r3 ⟨z, o, e1, kd, ps, pn⟩ d3 => ?_⟩
    subst e1; cases d2
    refine ⟨z, o, rfl, kd, ?_⟩
    cases o with
    | none => exact q _ H3 _ ((r1.trans r2).trans r3) (pn rfl) d3
    | some v =>
      obtain ⟨y, hy, p⟩ := ps v rfl
      exact q _ H3 _ ((r1.trans r2).trans r3) p (hy _)
/-- a written thing, read as data -/
theorem ev_kref {a : Addr} {y : D} (hy : ∀ H, Den K H y (.ref a)) (p : P y) : Ev K B (tC (.ref a)) Γ P := fun M σ H Q g x q => q _ H _ g.refl p (hy _)
theorem ev_neg (h : Ev K B te Γ fun d => ∃ i, d = .int i ∧ P (.int (-i))) : Ev K B (tUn (rU fun i => .int (-i)) te) Γ P := fun M σ H Q g x q =>
  h M σ H _ g x fun v H1 d r1 ⟨i, e, p⟩ d1 => by
    subst e; cases d1
    exact ⟨i, rfl, q _ H1 _ r1 p (.int _)⟩
/-- a written tuple -/
def KTup (K : PySem.W.Frag) (v : V) (xs : List V) : Prop := ∃ (p : Addr) (o : Obj) (its : Array Value) (n : Nat), v = .ref p ∧ K.lookup p = some o ∧ o.cls = .type "tuple" ∧ o.dict = none ∧ o.data = .seq its n ∧ its.size ≤ sizeLine ∧ Vals xs its.toList
theorem KTup.den {v : V} {xs : List Str} (t : KTup K v (xs.map V.str)) (H : Hp) : Den K H (.tup (xs.map D.str)) v := by
  obtain ⟨p, o, its, n, rfl, h1, h2, _, h4, h5, h6⟩ := t
  refine .tup (.inr ⟨o, its, n, h1, h2, h4, h5, h6⟩) ?_
  clear h6
  induction xs with
  | nil => exact .nil
  | cons x xs ih => exact .cons (.str x) ih
/-- d[k].count(x), d a written dict of tuples -/
theorem ev_kcount {y : Str} (h : Ev K B ta Γ fun d => Ev K B tb Γ fun e => ∃ (z : Str) (a : Addr) (v : V) (xs : List Str), d = .obj a ∧ e = .str z ∧ KD K w a z (some v) ∧ KTup K v (xs.map V.str) ∧ P (.int ((xs.map V.str).countP fun z => eqV z (.str y) : Nat))) :
    Ev K B (tBM K "tuple" (rCntT K) (tOp (rKIx K w) ta tb) (tCons (tC (.str y)) tNil)) Γ P := fun M σ H Q g x q => by
  have key : Ev K B (tOp (rKIx K w) ta tb) Γ fun d => True := (ev_kix (w := w) (h.mono fun d hd => hd.mono fun e ⟨z, a, v, xs, e1, e2, kd, kt, p⟩ => ⟨z, a, v, _, e1, e2, kd, kt.den, trivial⟩))
  refine h M σ H _ g x fun v1 H1 d r1 p1 d1 => p1 M σ H1 _ (g.r r1) (x.r g r1) fun v2 H2 e r2 ⟨z, a, v, xs, e1, e2, kd, kt, p⟩ d2 => ?_
  subst e1 e2
  have d1' : v1 = .ref a := by cases d1; rfl
  have d2' : v2 = .str z := by cases d2; rfl
  subst d1' d2'
  refine ⟨a, z, v, rfl, rfl, kd, ?_⟩
  obtain ⟨pp, o, its, n, rfl, h1, h2, h3, h4, h5, h6⟩ := kt
  refine ⟨.inr (.inl ⟨rfl, o, h1, h2, h3⟩), pp, _, _, rfl, rfl, .inr ⟨o, its, n, h1, h2, h4, h5, h6⟩, rfl, ?_, ?_⟩
  · rw [List.all_map]
    exact List.all_eq_true.mpr fun _ _ => rfl
  · exact q _ H2 _ (r1.trans r2) p (.int _)
theorem ev_slT {tl th : TO} (h : Ev K B ta Γ fun d => ∃ ds, d = .tup ds ∧ EvO K B tl Γ fun lo => EvO K B th Γ fun hi => ¬ (HT.sIx ds.length 0 lo = 0 ∧ HT.sIx ds.length ds.length hi = ds.length) ∧ P (.tup (cutD ds lo hi))) : Ev K B (tSl (rSlT K) ta tl th) Γ P := fun M σ H Q g x q =>
  h M σ H _ g x fun v H1 d r ⟨ds, e, p⟩ dn => by
    subst e
    exact p M σ H1 _ (g.r r) (x.r g r) fun lo H2 r2 p2 => p2 M σ H2 _ ((g.r r).r r2) (x.r g (r.trans r2)) fun hi H3 r3 ⟨nw, p3⟩ => by
      have g3 := ((g.r r).r r2).r r3
      have dn3 := (g.r r).den (r2.trans r3) dn
      cases dn3 with
      | @tup _ zs _ a1 a2 =>
        refine ⟨_, _, rfl, SqT.sub hid_sub a1, by rw [← a2.length]; exact nw, fun p hp => ?_⟩
        have r4 := g3.new (o := .tup (cutV zs lo hi)) hp
        refine q _ _ _ ((r.trans (r2.trans r3)).trans r4) p3 (.tup (.inl (.inl (hid_of (g3.fresh hp) upd_same))) (g3.dens r4 ?_))
        unfold cutD cutV
        rw [a2.length]
        exact (a2.drop _).take _
/-- x in a list or tuple of flat items -/
def fvD : D → V
  | .bl b => .bl b
  | .int i => .int i
  | .str x => .str x
  | _ => .non
theorem flat_fv {H : Hp} {d : D} {v : V} (f : flatD d = true) (h : Den K H d v) : v = fvD d ∧ flatV v = true := by
  cases h with
  | non => exact ⟨rfl, rfl⟩
  | bl _ => exact ⟨rfl, rfl⟩
  | int _ => exact ⟨rfl, rfl⟩
  | str _ => exact ⟨rfl, rfl⟩
  | _ => cases f
theorem flats_fv {H : Hp} : ∀ {ds : List D} {vs : List V}, ds.all flatD = true → DenAll K H ds vs → vs = ds.map fvD ∧ vs.all flatV = true
  | [], _, _, h => by cases h; exact ⟨rfl, rfl⟩
  | d :: ds, _, f, h => by
    rw [List.all_cons, Bool.and_eq_true] at f
    cases h with
    | cons h1 h2 =>
      obtain ⟨e1, f1⟩ := flat_fv f.1 h1
      obtain ⟨e2, f2⟩ := flats_fv f.2 h2
      exact ⟨by rw [e1, e2]; rfl, by rw [List.all_cons, f1, f2]; rfl⟩
theorem ev_inS {neg : Bool} (h : Ev K B ta Γ fun d => Ev K B tb Γ fun e => ∃ es, (e = .tup es ∨ e = .lst es) ∧ flatD d = true ∧ es.all flatD = true ∧ P (.bl (if neg then !inV (fvD d) (es.map fvD) else inV (fvD d) (es.map fvD)))) : Ev K B (tOp (rIn K neg) ta tb) Γ P :=
  ev_op (h.mono fun d hd => hd.mono fun e ⟨es, e1, fd, fs, p⟩ => fun M H x y Q g dx dy q => by
    obtain ⟨ex, fx⟩ := flat_fv fd dx
    rcases e1 with e1 | e1
    · subst e1
      cases dy with
      | tup a1 a2 =>
        obtain ⟨ey, fy⟩ := flats_fv fs a2
        refine ⟨_, _, rfl, .inr (SqT.sub hid_sub a1), fx, fy, ?_⟩
        rw [ex, ey]
        exact q _ H _ g.refl p (.bl _)
    · subst e1
      cases dy with
      | lst a1 a2 =>
        obtain ⟨ey, fy⟩ := flats_fv fs a2
        refine ⟨_, _, rfl, .inl (SqL.of (hid_get a1).2), fx, fy, ?_⟩
        rw [ex, ey]
        exact q _ H _ g.refl p (.bl _))
/-- *e among arguments -/
theorem ea_star (h : Ev K B te Γ fun d => ∃ es, (d = .tup es ∨ d = .lst es) ∧ EvA K B tr Γ fun ds => PA (es ++ ds)) : EvA K B (StX.tStar K te tr) Γ PA := fun M σ H Q g x q =>
  h M σ H _ g x fun v H1 d r1 ⟨es, e1, p1⟩ d1 => by
    rcases e1 with e1 | e1
    · subst e1
      cases d1 with
      | tup a1 a2 =>
        refine ⟨_, _, rfl, .inl (SqT.sub hid_sub a1), p1 M σ H1 _ (g.r r1) (x.r g r1) fun ys H2 ds r2 p2 d2 => ?_⟩
        exact q _ H2 _ (r1.trans r2) p2 (((g.r r1).dens r2 a2).app d2)
    · subst e1
      cases d1 with
      | lst a1 a2 =>
        refine ⟨_, _, rfl, .inr (SqL.of (hid_get a1).2), p1 M σ H1 _ (g.r r1) (x.r g r1) fun ys H2 ds r2 p2 d2 => ?_⟩
        exact q _ H2 _ (r1.trans r2) p2 (((g.r r1).dens r2 a2).app d2)
/-- f-strings -/
theorem ev_fmt (h : Ev K B te Γ fun d => (∃ y : Str, d = .str y ∧ y.length ≤ sizeLine ∧ P (.str y)) ∨ ∃ i : Int, d = .int i ∧ i.natAbs.log2 < 1920 ∧ P (.str (toString i))) : Ev K B (tFmt te) Γ P := fun M σ H Q g x q =>
  h M σ H _ g x fun v H1 d r1 p1 d1 => by
    rcases p1 with ⟨y, e, hl, p⟩ | ⟨i, e, hl, p⟩
    · subst e; cases d1
      exact .inl ⟨y, rfl, hl, q _ H1 _ r1 p (.str _)⟩
    · subst e; cases d1
      exact .inr ⟨i, rfl, hl, q _ H1 _ r1 p (.str _)⟩
def EvJ (K : PySem.W.Frag) (B : Bx) (ts : List TE) (acc : Str) (Γ : Gam) (P : Str → Prop) : Prop := ∀ (M : List Addr) (σ : L2.St) (H : Hp) (Q : Str → Hp → Prop), Good K B M H → EnvOk K M H σ Γ →
  (∀ z H', R K B H H' → P z → Q z H') → tJs ts acc σ H Q
theorem ej_nil {acc : Str} {P : Str → Prop} (p : P acc) : EvJ K B [] acc Γ P := fun M σ H Q g x q => q acc H g.refl p
theorem ej_cons {t : TE} {ts : List TE} {acc : Str} {P : Str → Prop} (h : Ev K B t Γ fun d => ∃ y : Str, d = .str y ∧ (acc ++ y).length ≤ sizeLine ∧ EvJ K B ts (acc ++ y) Γ P) : EvJ K B (t :: ts) acc Γ P := fun M σ H Q g x q =>
  h M σ H _ g x fun v H1 d r1 ⟨y, e, hl, p⟩ d1 => by
    subst e; cases d1
    exact ⟨y, rfl, hl, p M σ H1 _ (g.r r1) (x.r g r1) fun z H2 r2 p2 => q z H2 (r1.trans r2) p2⟩
theorem ev_joined {ts : List TE} (h : EvJ K B ts Str.empty Γ fun z => P (.str z)) : Ev K B (fun σ H Q => tJs ts Str.empty σ H fun out H1 => Q (.str out) H1) Γ P := fun M σ H Q g x q =>
  h M σ H _ g x fun z H1 r p => q _ H1 _ r p (.str _)
theorem dens_strs {H : Hp} : ∀ ys : List Str, DenAll K H (ys.map D.str) (ys.map V.str)
  | [] => .nil
  | y :: ys => .cons (.str y) (dens_strs ys)
/-- text.split(sep) -/
theorem ev_split (h : Ev K B ta Γ fun d => ∃ a, d = .str a ∧ Ev K B tb Γ fun e => ∃ b : Str, e = .str b ∧ (b.length == 0) = false ∧ a.length + 2 ≤ sizeLine ∧ P (.lst ((Txt.split a b).map D.str))) :
    Ev K B (tM1 (fun x xs H Q => ∃ a b, x = .str a ∧ xs = [.str b] ∧ (b.length == 0) = false ∧ a.length + 2 ≤ sizeLine ∧ rNewStrs (Txt.split a b) H Q) ta tb) Γ P := fun M σ H Q g x q =>
  h M σ H _ g x fun v H1 d r1 ⟨a, e, p1⟩ d1 => by
    subst e; cases d1
    refine ⟨⟨a, rfl⟩, p1 M σ H1 _ (g.r r1) (x.r g r1) fun u H2 e r2 ⟨b, eb, hb, hl, p⟩ d2 => ?_⟩
    subst eb; cases d2
    refine ⟨a, b, rfl, rfl, hb, hl, fun pp hp => ?_⟩
    have g2 := (g.r r1).r r2
    have r3 := g2.new (o := .lst ((Txt.split a b).map V.str)) hp
    exact q _ _ _ ((r1.trans r2).trans r3) p (.lst (hid_of (g2.fresh hp) upd_same) (dens_strs _))
/-- str(int), str(text) -/
theorem ev_strA (h : EvA K B tr Γ fun ds => (∃ i, ds = [.int i] ∧ i.natAbs.log2 < 1920 ∧ P (.str (toString i))) ∨ ∃ a, ds = [.str a] ∧ P (.str a)) :
    Ev K B (tCB (fun xs H Q => (∃ i, xs = [.int i] ∧ i.natAbs.log2 < 1920 ∧ Q (.str (toString i)) H) ∨ ∃ a, xs = [.str a] ∧ Q (.str a) H) tr) Γ P := fun M σ H Q g x q =>
  h M σ H _ g x fun vs H1 ds r p1 dn => by
    rcases p1 with ⟨i, e, hl, p⟩ | ⟨a, e, p⟩
    · subst e
      cases dn with
      | cons d1 d2 =>
        cases d2; cases d1
        exact .inl ⟨i, rfl, hl, q _ H1 _ r p (.str _)⟩
    · subst e
      cases dn with
      | cons d1 d2 =>
        cases d2; cases d1
        exact .inr ⟨a, rfl, q _ H1 _ r p (.str _)⟩
/-- int(text) -/
theorem ev_intS (h : EvA K B tr Γ fun ds => ∃ a i, ds = [.str a] ∧ PySem.intText? a = some i ∧ a.length ≤ 640 ∧ P (.int i)) :
    Ev K B (tCB (fun xs H Q => ∃ a n, xs = [.str a] ∧ PySem.intText? a = some n ∧ a.length ≤ 640 ∧ Q (.int n) H) tr) Γ P := fun M σ H Q g x q =>
  h M σ H _ g x fun vs H1 ds r ⟨a, i, e, hi, hl, p⟩ dn => by
    subst e
    cases dn with
    | cons d1 d2 =>
      cases d2; cases d1
      exact ⟨a, i, rfl, hi, hl, q _ H1 _ r p (.int _)⟩
/-- a class's constant -/
theorem ev_cval {C : Addr} {mc : Value} {f : Str} {v : V} {u : Value} {y : D} (r : ClX.CRead K C mc) (k : ClX.CVal K C mc f v u) (hy : ∀ H, Den K H y v) (p : P y) : Ev K B (ClX.tCVal K (tC (.ref C)) f) Γ P := fun M σ H Q g x q =>
  ⟨C, mc, v, u, rfl, r, k, q _ H _ g.refl p (hy _)⟩
/-! ### enumerate -/
def enumD (ds : List D) : List D := (List.range ds.length).zipWith (fun (i : Nat) d => D.tup [.int (i : Int), d]) ds
theorem enumD_len (ds : List D) : (enumD ds).length = ds.length := by unfold enumD; rw [List.length_zipWith, List.length_range, Nat.min_self]
theorem enumD_get {ds : List D} {i : Nat} {e : D} (h : (enumD ds)[i]? = some e) : ∃ d, ds[i]? = some d ∧ e = .tup [.int (i : Int), d] := by
  unfold enumD at h
  rw [List.getElem?_zipWith] at h
  by_cases hi : i < ds.length
  · rw [List.getElem?_range hi, List.getElem?_eq_getElem hi] at h
    exact ⟨_, List.getElem?_eq_getElem hi, (Option.some.inj h).symm⟩
  · rw [List.getElem?_eq_none (l := ds) (by omega)] at h
    cases q : (List.range ds.length)[i]? <;> rw [q] at h <;> cases h
theorem wk_enum {M : List Addr} {H : Hp} {a : Addr} {xs : List V} {ds : List D} (h : hid M H a = some (.lst xs)) (hd : DenAll K (hid M H) ds xs) : Wk K B M H (Ite K a) (enumD ds) := fun H1 g r => by
  have h1 : H1 a = some (.lst xs) := r a _ h
  refine ⟨fun i d hi => ?_, ⟨xs, SqL.of h1, by rw [enumD_len]; exact Nat.le_of_eq hd.length.symm⟩⟩
  obtain ⟨d', gd, e⟩ := enumD_get hi
  subst e
  obtain ⟨v, hv, dv⟩ := hd.get gd
  refine ⟨⟨xs, v, SqL.of h1, hv⟩, fun x H2 y => ?_⟩
  obtain ⟨T, x1, ex, nT, eH, f1⟩ := y
  have e1 := Option.some.inj ((f1 _ (SqL.of h1)).symm.trans hv)
  subst ex e1 eH
  have r2 := g.new (o := .tup [.int (i : Nat), x1]) nT
  refine ⟨r2, .tup (.inl (.inl (hid_of (g.fresh nT) upd_same))) ?_⟩
  exact g.dens r2 (.cons (.int _) (.cons (Den.sub (rec_sub g r) _ _ dv) .nil))
theorem ei_enum {PI : List D → Prop} (h : EvA K B tr Γ fun ds => ∃ xs, ds = [.lst xs] ∧ PI (enumD xs)) : EvI K B (iEnum K tr) Γ PI := fun M σ H Rk g x q =>
  h M σ H _ g x fun vs H1 ds r ⟨xs, e, p⟩ dn => by
    subst e
    cases dn with
    | cons d1 d2 =>
      cases d2
      cases d1 with
      | lst a1 a2 =>
        refine ⟨_, _, rfl, SqL.of (hid_get a1).2, q _ H1 _ r p fun M' s1 s2 => ?_⟩
        refine wk_enum (hid_of (fun z => ?_) (hid_get a1).2) (dens_up s2 a2)
        rcases s2 _ z with z | z
        · exact (hid_get a1).1 z
        · rw [(hid_get a1).2] at z; cases z
/-! ### e.items(), e gives a new dict of flat values -/
def EvF (K : PySem.W.Frag) (B : Bx) (te : TE) (Γ : Gam) (P : List (Key × V) → Prop) : Prop := ∀ (M : List Addr) (σ : L2.St) (H : Hp) (Q : VK), Good K B M H → EnvOk K M H σ Γ →
  (∀ p H' kvs, H p = none → R K B H H' → H' p = some (.dK kvs) → P kvs → Q (.ref p) H') → te σ H Q
def kvD (kv : Key × V) : D := .tup [keyD kv.1, match kv.2 with | .int i => .int i | .str x => .str x | .bl b => .bl b | _ => .non]
theorem keyD_at {H : Hp} : ∀ k : Key, Den K H (keyD k) (kV k)
  | .inl _ => .int _
  | .inr _ => .str _
theorem ei_itemsF {PI : List D → Prop} (h : EvF K B te Γ fun kvs => (∀ kv, kv ∈ kvs → ∃ i, kv.2 = .int i) ∧ PI (kvs.map kvD)) : EvI K B (iItems (tLock te)) Γ PI := fun M σ H Rk g x q =>
  h M σ H _ g x fun p H1 kvs hp r1 h1 ⟨hf, p1⟩ => by
    refine ⟨p, kvs, rfl, h1, fun o => ⟨p, o, kvs, rfl, upd_same, ?_⟩⟩
    have pb : B.No p := g.fresh_b hp
    have pl : p ≠ B.l := g.fresh_l hp
    have r2 : R K B H (upd H1 p (.frz o (.dK kvs))) := r1.putNew hp pb pl (.of h1 fun φ z => by cases z)
    refine q _ _ _ r2 p1 fun M' s1 s2 => fun H3 g3 rv => ?_
    have h3 : H3 p = some (.frz o (.dK kvs)) := rv p _ (hid_of (fun z => by
      rcases s2 _ z with z | z
      · exact g.fresh hp z
      · rw [upd_same] at z; cases z) upd_same)
    refine ⟨fun i d hi => ?_, ⟨h3, by rw [List.length_map]; exact Nat.le_refl _⟩⟩
    rw [List.getElem?_map] at hi
    obtain ⟨kv, hkv, rfl⟩ := Option.map_eq_some_iff.mp hi
    refine ⟨⟨h3, (List.getElem?_eq_some_iff.mp hkv).1⟩, fun v H4 y => ?_⟩
    obtain ⟨T, k, v0, hk, ex, nT, eH⟩ := y
    rw [hkv] at hk
    cases hk
    subst ex eH
    have r4 := g3.new (o := .tup [kV k, v0]) nT
    refine ⟨r4, .tup (.inl (.inl (hid_of (g3.fresh nT) upd_same))) (.cons (keyD_at k) (.cons ?_ .nil))⟩
    obtain ⟨i, e⟩ := hf (k, v0) (List.mem_of_getElem? hkv)
    have e' : v0 = .int i := e
    subst e'
    exact .int _
/-- C(.., k = v, ..) -/
theorem ev_mkK {C : Addr} {ns : List Str} {n m : Nat} {FN : Bx → List D → (List D → Prop) → Prop} {E0 : XK} {tk : TA} {gV : List V → List V → List V} {N' : Nat} (hgV : ∀ (x : V) (vs zs : List V), vs.length = n → zs.length = m → gV (x :: vs) zs = x :: (vs ++ zs))
    (c : Cls K C) (no : ∀ f, f ∈ ns → NoAttr K C f) (h : EvA K B tr Γ fun ds => ds.length = n ∧ EvA K B tk Γ fun es => es.length = m ∧ N' = n + m ∧ FN B (ds ++ es) fun fs => P (.ins C ns fs)) : Ev K B (tMakeK C n m (SpN K N' ns FN) gV E0 tr tk) Γ P := fun M σ H Q g x q =>
  h M σ H _ g x fun vs H0 ds r0 ⟨hl, p0⟩ dn0 => p0 M σ H0 _ (g.r r0) (x.r g r0) fun zs H1 es r01 ⟨hl2, hN, p⟩ dn1 => by
    have r := r0.trans r01
    have dn := ((g.r r0).dens r01 dn0).app dn1
    refine ⟨by rw [← dn0.length]; exact hl, by rw [← dn1.length]; exact hl2, fun a dx ha hd ne => ?_⟩
    rw [hgV _ _ _ (by rw [← dn0.length]; exact hl) (by rw [← dn1.length]; exact hl2)]
    have g1 := g.r r
    have hd' : ∀ b o, H1 b = some o → upd H1 dx (.own a) b = some o := fun b o e => by rw [upd_ne (ne_of_none e hd)]; exact e
    have r1 : R K B H1 (upd H1 dx (.own a)) := g1.new hd
    have g2 := g1.r r1
    have ha2 : (upd H1 dx (.own a)) a = none := by rw [upd_ne (Ne.symm ne)]; exact ha
    refine ⟨B, a :: M, a, C, dx, _, _, _, rfl, by rw [← dn.length, List.length_append]; omega, g2.own ha2, List.mem_cons_self, ⟨g2.h0 ha2, g2.m0 ha2⟩, upd_same, c, no, DenAll.sub (hid_own ha2) _ _ (g1.dens r1 dn), p, fun H' ws fs k ea ln de pe => ⟨rfl, ?_⟩⟩
    refine q _ H' (.ins C ns fs) (r.trans (r1.trans ((g2.new ha2).x.trans k |>.new ha2))) pe ?_
    exact .ins (hid_of (g1.fresh ha) ea) ln (DenAll.sub hid_less _ _ de)
end
end DL

set_option maxHeartbeats 2000000
namespace DL
open PySem PySem.Spec PyProof.Rows L2 RZ RD
section
variable {K : PySem.W.Frag} {B : Bx} {M : List Addr} {H H1 : Hp} {Γ : Gam} {te ta tb tc td ty tx tk tv : TE} {t : TT} {u : TS} {tr : TA} {P : D → Prop} {PF : List (Key × V) → Prop} {w : World} {n : Nat} {F : Bx → List D → (D → Prop) → Prop}
theorem Good.none (g : Good K B M H) (r : R K B H H1) {p : Addr} (h : H1 p = none) : H p = none := r.none g h
/-! ### new dicts of flat values -/
theorem ef_if (h : EvT K B t Γ fun k => if k = true then EvF K B ta Γ PF else EvF K B tb Γ PF) : EvF K B (tIf t ta tb) Γ PF := fun M σ H Q g x q => h M σ H _ g x fun k H1 r1 p => by
  cases k with
  | true =>
    rw [if_pos rfl] at p ⊢
    exact p M σ H1 Q (g.r r1) (x.r g r1) fun p H2 kvs hp r2 e pk => q p H2 kvs (g.none r1 hp) (r1.trans r2) e pk
  | false =>
    rw [if_neg Bool.false_ne_true] at p ⊢
    exact p M σ H1 Q (g.r r1) (x.r g r1) fun p H2 kvs hp r2 e pk => q p H2 kvs (g.none r1 hp) (r1.trans r2) e pk
theorem ef_new (p : PF []) : EvF K B tDNewK Γ PF := fun M σ H Q g x q => fun a ha => q a _ [] ha (g.new ha) upd_same p
theorem ef_disp1 (h : Ev K B tk Γ fun e => ∃ k, e = keyD k ∧ Ev K B tv Γ fun d => ∃ i, d = .int i ∧ PF [(k, .int i)]) : EvF K B (tDisp [(tk, tv)]) Γ PF := fun M σ H Q g x q => fun a ha => by
  have g1 : Good K B (a :: M) (upd H a (.dK [])) := g.own ha
  have nb := g.fresh_b ha
  have nl := g.fresh_l ha
  refine h (a :: M) σ _ _ g1 (x.sub (hid_own ha)) fun kv H1 e r1 ⟨k, ek, p1⟩ d1 => ?_
  subst ek
  have ek := keyD_den d1
  subst ek
  refine p1 (a :: M) σ H1 _ (g1.r r1) ((x.sub (hid_own ha)).r g1 r1) fun v H2 d r2 ⟨i, ed, p⟩ d2 => ?_
  subst ed
  cases d2
  have r12 := r1.trans r2
  refine ⟨r12.2 a _ upd_same nb, [(k, .int i)], rfl, by show 1 ≤ 15; decide, ?_⟩
  have em : mergeK [] [(k, V.int i)] = [(k, V.int i)] := by
    show putK [] k (V.int i) = _
    unfold putK
    rfl
  rw [em]
  exact q a _ _ ha (((g.new ha).trans r12).putNew ha nb nl (.of (r12.2 a _ upd_same nb) fun φ z => by cases z)) upd_same p
/-- blocks that end by handing back a new dict -/
def RnF (K : PySem.W.Frag) (B : Bx) (ts : TS) (Γ : Gam) (P : List (Key × V) → Prop) : Prop := ∀ (M : List Addr) (σ : L2.St) (H : Hp) (E : Ends), Good K B M H → EnvOk K M H σ Γ →
  (∀ p H' kvs, H p = none → R K B H H' → H' p = some (.dK kvs) → P kvs → E.rt (.ref p) H') → ts E σ H
theorem rf_set {i : Nat} (h : Ev K B te Γ fun d => RnF K B u (Γ.set i (some d)) PF) : RnF K B (tSeq (tAsg te (gName i)) u) Γ PF := fun M σ H E g x q =>
  h M σ H _ g x fun v H1 d r1 p dn => p M _ H1 E (g.r r1) ((x.r g r1).set dn) fun p H2 kvs hp r2 e pk => q p H2 kvs (g.none r1 hp) (r1.trans r2) e pk
theorem rf_ret (h : EvF K B te Γ PF) : RnF K B (tRet te) Γ PF := fun M σ H E g x q => h M σ H _ g x q
/-- the promise of a def that hands back a new dict of flat values -/
def SpF (K : PySem.W.Frag) (n : Nat) (F : Bx → List D → (List (Key × V) → Prop) → Prop) : Sp := fun vs H Q _ => vs.length = n ∧ ∃ (B : Bx) (M : List Addr) (ds : List D) (P : List (Key × V) → Prop),
  Good K B M H ∧ DenAll K (hid M H) ds vs ∧ F B ds P ∧ ∀ p H' kvs, H p = none → R K B H H' → H' p = some (.dK kvs) → P kvs → Q (.ref p) H'
theorem run_fresh {N : List Str} {ds : List D} {vs : List V} {Q : VK} {ts : TS} (g : Good K B M H) (hd : DenAll K (hid M H) ds vs) (q : ∀ p H' kvs, H p = none → R K B H H' → H' p = some (.dK kvs) → PF kvs → Q (.ref p) H')
    (h : RnF K B ts (startG N.length ds) PF) : ts { nx := fun _ H' => Q .non H', rt := Q } (L2.start N vs) H := h M (L2.start N vs) H _ g (startG_ok hd) q
theorem ef_call {E0 : XK} {F : Bx → List D → (List (Key × V) → Prop) → Prop} (h : EvA K B tr Γ fun ds => ds.length = n ∧ F B ds PF) : EvF K B (tCall (SpF K n F) [] E0 tr) Γ PF := fun M σ H Q g x q =>
  h M σ H _ g x fun vs H1 ds r1 ⟨hl, p1⟩ h1 => by
    show SpF K n F (vs ++ []) H1 Q E0
    rw [List.append_nil]
    exact ⟨by rw [← h1.length]; exact hl, B, M, ds, PF, g.r r1, h1, p1, fun p H2 kvs hp r2 e pk => q p H2 kvs (g.none r1 hp) (r1.trans r2) e pk⟩
/-- d.get(k, x) -/
theorem ev_dget2 (h : Ev K B td Γ fun d => ∃ fz ks ds, d = .dK fz ks ds ∧ Ev K B ty Γ fun e => ∃ k, e = keyD k ∧ Ev K B tx Γ fun f => (∀ y, lookK ks ds k = some y → P y) ∧ (lookK ks ds k = none → P f)) : Ev K B (tDGet2 td ty tx) Γ P := fun M σ H Q g x q =>
  h M σ H _ g x fun v1 H1 d r1 ⟨fz, ks, ds, ed, p1⟩ d1 => by
    subst ed
    obtain ⟨a, vs, ev, ha, ln, dn⟩ := d1.rdK
    subst ev
    refine ⟨a, rfl, .inl ⟨_, rd_hid ha⟩, p1 M σ H1 _ (g.r r1) (x.r g r1) fun v2 H2 e r2 ⟨k, ek, p2⟩ d2 => ?_⟩
    subst ek
    have ek := keyD_den d2
    subst ek
    refine p2 M σ H2 _ ((g.r r1).r r2) (x.r g (r1.trans r2)) fun v3 H3 f r3 ⟨ps, pn⟩ d3 => ?_
    obtain ⟨a', vs', ev', ha', ln', dn3⟩ := ((g.r r1).den (r2.trans r3) d1).rdK
    cases ev'
    obtain ⟨hs, hn⟩ := lookK_den (k := k) ln' dn3
    refine ⟨valV (ks.zip vs') k, .inl ⟨_, k, rd_hid ha', rfl, rfl⟩, ?_⟩
    cases q1 : lookK ks ds k with
    | none =>
      rw [hn q1]
      exact q _ H3 _ ((r1.trans r2).trans r3) (pn q1) d3
    | some y =>
      obtain ⟨v, hv, dv⟩ := hs y q1
      rw [hv]
      exact q _ H3 _ ((r1.trans r2).trans r3) (ps y q1) dv
end
section
variable {K : PySem.W.Frag} {B : Bx} {H0 : Hp} {M0 : List Addr} {Γ : Gam} {Ω : Own} {t u : TS} {c : TT} {P : Pso} {te tv ty : TE}
theorem rw_ifC {i j : Nat} {p : Addr} {d : Cell} (hi : Γ[i]? = some (some (.obj p))) (hj : Ω[j]? = some (p, d)) (h : EvT K B c (Γ.set i (some (cellD d))) fun k => if k = true then Rw K B t H0 M0 Γ Ω P else Rw K B u H0 M0 Γ Ω P) : Rw K B (tIfS c t u) H0 M0 Γ Ω P := fun σ H E s x k1 k2 k3 k4 =>
  h _ σ H _ s.lessGood (s.lendC x hi hj) fun k H1 r p => by
    cases k with
    | true =>
      rw [if_pos rfl] at p ⊢
      exact p σ H1 E (s.step r) (x.r s.good r) (fun σ2 H2 Γ2 Ω2 g2 => k1 σ2 H2 Γ2 Ω2 ((r.go s.m0 s).trans g2)) k2 (fun σ2 H2 Γ2 Ω2 g2 => k3 σ2 H2 Γ2 Ω2 ((r.go s.m0 s).trans g2)) fun σ2 H2 Γ2 Ω2 g2 => k4 σ2 H2 Γ2 Ω2 ((r.go s.m0 s).trans g2)
    | false =>
      rw [if_neg Bool.false_ne_true] at p ⊢
      exact p σ H1 E (s.step r) (x.r s.good r) (fun σ2 H2 Γ2 Ω2 g2 => k1 σ2 H2 Γ2 Ω2 ((r.go s.m0 s).trans g2)) k2 (fun σ2 H2 Γ2 Ω2 g2 => k3 σ2 H2 Γ2 Ω2 ((r.go s.m0 s).trans g2)) fun σ2 H2 Γ2 Ω2 g2 => k4 σ2 H2 Γ2 Ω2 ((r.go s.m0 s).trans g2)
/-- x = e, e reading what is owned -/
theorem rw_setC {i j k0 : Nat} {p : Addr} {d : Cell} (hi : Γ[i]? = some (some (.obj p))) (hj : Ω[j]? = some (p, d)) (h : Ev K B te (Γ.set i (some (cellD d))) fun e => flatD e = true ∧ P.nx (Γ.set k0 (some e)) Ω) : Rw K B (tAsg te (gName k0)) H0 M0 Γ Ω P := fun σ H E s x k1 k2 k3 k4 =>
  h _ σ H _ s.lessGood (s.lendC x hi hj) fun v H1 e r ⟨fl, p⟩ dn => k1 _ H1 _ _ (r.go s.m0 s) (s.step r) ((x.r s.good r).set (den_flat fl dn)) p
theorem rw_retC {i j : Nat} {p : Addr} {d : Cell} (hi : Γ[i]? = some (some (.obj p))) (hj : Ω[j]? = some (p, d)) (h : Ev K B te (Γ.set i (some (cellD d))) P.rt) : Rw K B (tRet te) H0 M0 Γ Ω P := fun σ H E s x k1 k2 k3 k4 =>
  h _ σ H _ s.lessGood (s.lendC x hi hj) fun v H1 e r p dn => k2 v H1 e (s.r.trans r) p (Den.sub (fun a o ha => by
    obtain ⟨n, q⟩ := hid_get ha
    exact hid_of (fun z => n (List.mem_append_right _ z)) q) _ _ dn)
theorem rw_ownN {i : Nat} (h : ∀ p, P.nx (Γ.set i (some (.obj p))) ((p, .dK [] []) :: Ω)) : Rw K B (tAsg tDNewK (gName i)) H0 M0 Γ Ω P := fun σ H E s x k1 k2 k3 k4 => fun a ha => by
  have := rw_ownD (K := K) (B := B) (H0 := H0) (M0 := M0) (Γ := Γ) (Ω := Ω) (P := P) (i := i) (trs := []) (ep_nil ⟨List.nodup_nil, by show 0 ≤ 15; decide, h⟩) σ H E s x k1 k2 k3 k4 a ha
  obtain ⟨_, kvs, e, _, z⟩ := this
  have e' : kvs = [] := by
    cases kvs with
    | nil => rfl
    | cons _ _ => cases e
  subst e'
  have eu : upd (upd H a (.dK [])) a (.dK (mergeK [] [])) = upd H a (.dK []) := by
    funext b
    by_cases hb : b = a
    · rw [hb, upd_same, upd_same]; rfl
    · rw [upd_ne hb]
  rw [eu] at z
  exact z
def putKD : List Key → List D → Key → D → List Key × List D
  | k0 :: ks, d0 :: ds, k, d => if k0 = k then (k0 :: ks, d :: ds) else (k0 :: (putKD ks ds k d).1, d0 :: (putKD ks ds k d).2)
  | _, _, k, d => ([k], [d])
theorem putK_nil {k : Key} {v : V} : putK [] k v = [(k, v)] := rfl
theorem putK_hit {k : Key} {v v0 : V} {kvs : List (Key × V)} (n : k ∉ kvs.map (·.1)) : putK ((k, v0) :: kvs) k v = (k, v) :: kvs := by
  unfold putK
  rw [if_pos (by simp), List.map_cons, if_pos rfl]
  congr 1
  refine (List.map_congr_left fun r hr => ?_).trans (List.map_id _)
  rw [if_neg (fun e => n (by rw [← e]; exact List.mem_map_of_mem hr))]
  rfl
theorem putK_miss {k k0 : Key} {v v0 : V} {kvs : List (Key × V)} (h : k0 ≠ k) : putK ((k0, v0) :: kvs) k v = (k0, v0) :: putK kvs k v := by
  unfold putK
  rw [List.any_cons, decide_eq_false h, Bool.false_or]
  by_cases e : (kvs.any fun kv => decide (kv.1 = k)) = true
  · rw [if_pos e, if_pos e, List.map_cons, if_neg h]
  · rw [if_neg e, if_neg e]; rfl
theorem putKD_ok {H : Hp} : ∀ {ks : List Key} {ds : List D} {vs : List V} {k : Key} {d : D} {v : V}, ks.Nodup → ks.length = vs.length → DenAll K H ds vs → Den K H d v →
    ∃ vs', putK (ks.zip vs) k v = (putKD ks ds k d).1.zip vs' ∧ (putKD ks ds k d).1.length = vs'.length ∧ DenAll K H (putKD ks ds k d).2 vs'
  | [], [], [], k, d, v, _, _, _, hd => ⟨[v], rfl, rfl, .cons hd .nil⟩
  | k0 :: ks, d0 :: ds, v0 :: vs, k, d, v, nd, hl, hn, hd => by
    cases hn with
    | cons h1 h2 =>
      by_cases e : k0 = k
      · subst e
        have ee : putKD (k0 :: ks) (d0 :: ds) k0 d = (k0 :: ks, d :: ds) := if_pos rfl
        refine ⟨v :: vs, ?_, ?_, ?_⟩
        · rw [ee]
          refine putK_hit ?_
          show k0 ∉ (ks.zip vs).map Prod.fst
          rw [List.map_fst_zip (by simp at hl; omega)]
          exact (List.nodup_cons.mp nd).1
        · rw [ee]; simpa using hl
        · rw [ee]; exact .cons hd h2
      · have ee : putKD (k0 :: ks) (d0 :: ds) k d = (k0 :: (putKD ks ds k d).1, d0 :: (putKD ks ds k d).2) := if_neg e
        obtain ⟨vs', e1, e2, e3⟩ := putKD_ok (k := k) (List.nodup_cons.mp nd).2 (by simpa using hl) h2 hd
        refine ⟨v0 :: vs', ?_, ?_, ?_⟩
        · rw [ee, List.zip_cons_cons, putK_miss e, e1]; rfl
        · rw [ee]; simpa using e2
        · rw [ee]; exact .cons h1 e3
  | [], d :: ds, vs, _, _, _, _, hl, hn, _ => by cases hn; simp at hl
  | k :: ks, [], vs, _, _, _, _, hl, hn, _ => by cases hn; simp at hl
  | [], [], v :: vs, _, _, _, _, hl, _, _ => by simp at hl
  | k :: ks, d :: ds, [], _, _, _, _, hl, _, _ => by simp at hl
/-- d[k] = v, the key there or not -/
theorem rw_dputA {i j : Nat} {p : Addr} {ks : List Key} {ds : List D} (hi : Γ[i]? = some (some (.obj p))) (hj : Ω[j]? = some (p, .dK ks ds)) (hz : ks.length < sizeLine) (nd : ks.Nodup)
    (h : Ev K B tv Γ fun d => Ev K B ty Γ fun e => ∃ k, e = keyD k ∧ P.nx Γ (Ω.set j (p, .dK (putKD ks ds k d).1 (putKD ks ds k d).2))) : Rw K B (sDPut (tVar i) ty tv) H0 M0 Γ Ω P := fun σ H E s x k1 k2 k3 k4 => by
  refine h _ σ H _ s.good x fun v H1 d r1 p1 d1 => ?_
  have s1 := s.step r1
  have x1 := x.r s.good r1
  obtain ⟨vi, h1, h2⟩ := x1.at_ i _ hi
  cases h2
  refine ⟨_, h1, ?_⟩
  refine p1 _ σ H1 _ s1.good x1 fun u H2 e r2 ⟨k, e1, pn⟩ d2 => ?_
  subst e1
  have ek := keyD_den d2
  subst ek
  have s2 := s1.step r2
  have d1' := s1.good.den r2 d1
  obtain ⟨vs, hp, ln, dv⟩ := s2.cell p _ (List.mem_of_getElem? hj)
  have hq : ∀ o, hid (keysO Ω ++ M0) (upd H2 p o) = hid (keysO Ω ++ M0) H2 := fun o => hid_put (List.mem_append_left _ (StO.key hj))
  obtain ⟨vs', ep, ln', dv'⟩ := putKD_ok (k := k) nd ln dv d1'
  refine ⟨p, _, rfl, .inl ⟨ks.zip vs, k, hp, rfl, by rw [List.length_zip]; omega, rfl⟩, ?_⟩
  rw [ep]
  refine k1 _ _ Γ (Ω.set j (p, .dK (putKD ks ds k d).1 (putKD ks ds k d).2)) (((r1.go s.m0 s).trans (r2.go s.m0 s1)).trans (Go.upd hj (keysO_set hj))) (s2.putC hj ⟨vs', upd_same, ln', by rw [hq]; exact dv'⟩) ?_ pn
  rw [keysO_set hj]
  exact (x1.r s1.good r2).sub fun b o hb => by rw [hq]; exact hb
end
end DL

set_option maxHeartbeats 4000000
namespace RD
open PySem PySem.Spec PyProof.Rows L2
/-! ### zip of a list and a tuple -/
def ItzLT (K : PySem.W.Frag) (a b : Addr) : It where
  go i H := ∃ (xs ys : List V) (x y : V), SqL K H a xs ∧ SqT K H b ys ∧ xs[i]? = some x ∧ ys[i]? = some y
  yld i H v H' := ∃ T x y, v = .ref T ∧ H T = none ∧ H' = upd H T (.tup [x, y]) ∧ (∀ xs, SqL K H a xs → xs[i]? = some x) ∧ ∀ ys, SqT K H b ys → ys[i]? = some y
  stop i H := ∃ xs ys : List V, SqL K H a xs ∧ SqT K H b ys ∧ i ≤ xs.length ∧ i ≤ ys.length ∧ (i = xs.length ∨ i = ys.length)
def tnLT (n a b : Addr) (i : Nat) (h : Heap) : Prop :=
  IsZip h (n + 4) (n + 2) (n + 3) .none ∧ IsTupOf2 h (n + 2) (.ref n) (.ref (n + 1)) ∧ (∃ x y, IsTupOf2 h (n + 3) x y) ∧ h.IsListIter n a i ∧ h.IsTupleIter (n + 1) b i
theorem mem5 {n c : Addr} (h : c ∈ [n + 4, n + 2, n + 3, n, n + 1]) : c = n + 4 ∨ c = n + 2 ∨ c = n + 3 ∨ c = n ∨ c = n + 1 := by simpa using h
theorem apartN {n a b : Nat} (ha : a < n) (hb : b < n) : (n + 4 ∉ [n, a] ∧ n + 3 ∉ [n, a] ∧ n + 1 ∉ [n, a]) ∧ n + 4 ∉ [n + 1, b] ∧ n + 3 ∉ [n + 1, b] ∧ n ∉ [n + 1, b] := by
  simp only [List.mem_cons, List.not_mem_nil, or_false]
  omega
theorem sepLT {n a b : Addr} (ha : a < n) (hb : b < n) : ZipSep2 (n + 4) (n + 2) (n + 3) n (n + 1) [n, a] [n + 1, b] where
  TIz := by simp
  TOz := by simp
  TITO := by simp
  TIi1 := by simp
  mem1 := by simp
  zf1 := (apartN ha hb).1.1
  Tf1 := (apartN ha hb).1.2.1
  TIi2 := by simp
  mem2 := by simp
  zf2 := (apartN ha hb).2.1
  Tf2 := (apartN ha hb).2.2.1
  sep1_2 := (apartN ha hb).2.2.2
  sep2_1 := (apartN ha hb).1.2.2
theorem turnLT {P : Program} {w : World} {K : PySem.W.Frag} {elts : List Expr} {kk : Nat} {tpos : Pos} {n a b : Addr} (ha : a < n) (hb : b < n) :
    Turn P w K (.Tuple elts kk tpos) (ItzLT K a b) [n + 4, n + 2, n + 3, n, n + 1] (n + 4) (tnLT n a b) where
  mem := List.mem_cons_self
  obj := by
    rintro i h ⟨hz, h2, ⟨x, y, h3⟩, ⟨o1, e1, _, d1⟩, ⟨o2, e2, _, d2⟩⟩ c hc
    rcases mem5 hc with rfl | rfl | rfl | rfl | rfl
    · exact ⟨_, hz, nofun⟩
    · exact ⟨_, h2, nofun⟩
    · exact ⟨_, h3, nofun⟩
    · exact ⟨o1, e1, fun v q => nomatch d1.symm.trans q⟩
    · exact ⟨o2, e2, fun v q => nomatch d2.symm.trans q⟩
  keep := by
    rintro i h h' ⟨hz, h2, ⟨x, y, h3⟩, l1, l2⟩ k
    have kk : ∀ {c : Addr} {o : Obj}, c ∈ [n + 4, n + 2, n + 3, n, n + 1] → h.get? c = some o → h'.get? c = some o := fun hc q => k _ hc _ q
    refine ⟨kk (by simp) hz, kk (by simp) h2, ⟨x, y, kk (by simp) h3⟩, l1.at fun o q => kk (by simp) q, l2.at fun o q => kk (by simp) q⟩
  self := fun A i s Q E st h => wpAny_pyIter_zip st.1 h
  item := by
    rintro X rfl rfl rfl hc i pins s σ H E I hf ⟨hz, h2, ⟨x0, y0, h3⟩, l1, l2⟩ ⟨xs, ys, x, y, qx, qy, hx, hy⟩
    obtain ⟨us, r1, p1, _⟩ := I.list qx
    obtain ⟨ws, r2, p2, _⟩ := I.tuple qy
    have hh : X.A.in1.handled = none := I.ok.hd hc
    have i1 : i < us.toArray.size := by
      have := (List.getElem?_eq_some_iff.mp hx).1
      rw [List.size_toArray, ← r1.length]; exact this
    have i2 : i < ws.toArray.size := by
      have := (List.getElem?_eq_some_iff.mp hy).1
      rw [List.size_toArray, ← r2.length]; exact this
    refine wpAny_pyNext_zipD2_item (sepLT ha hb) (Draws.list hh n a (Nat.ne_of_lt ha) us.toArray) (Draws.tuple hh (n + 1) b (Nat.ne_of_lt (Nat.lt_succ_of_lt hb)) ws.toArray) hz h2 h3 ⟨l1, p1.isList⟩ ⟨l2, p2⟩ i1 i2 fun u1 u2 h' tk g1 g2 z' t' d1 d2 tN sz kp => ?_
    obtain ⟨u, hu, ru⟩ := r1.get hx
    obtain ⟨v, hv, rv⟩ := r2.get hy
    have eu : u1 = u := by
      have q : us.toArray[i]? = some u1 := g1
      rw [List.getElem?_toArray, hu] at q
      exact (Option.some.inj q).symm
    have ev : u2 = v := by
      have q : ws.toArray[i]? = some u2 := g2
      rw [List.getElem?_toArray, hv] at q
      exact (Option.some.inj q).symm
    subst eu ev
    refine ⟨_, rfl, wpAny_letOwnedTupleGo_zip (s := { s with heap := h', toks := tk }) z' fun h'' z'' sb => ?_⟩
    have zlt := Heap.lt_size hz
    have up : ∀ c o, c ≠ n + 4 → h'.get? c = some o → h''.get? c = some o := fun c o ne q => (sb.2 c ne).trans q
    have tN' : h''.get? s.heap.objs.size = some { cls := .type "tuple", data := .seq #[u1, u2] } := up _ _ (Nat.ne_of_gt zlt) tN
    have new : ObjOk X.prog X.w (upd H s.heap.objs.size (.tup [x, y])) h'' s.heap.objs.size (.tup [x, y]) := ⟨by show 2 ≤ sizeLine; decide, [u1, u2], .cons ru (.cons rv .nil), ⟨_, tN', rfl, _, rfl⟩⟩
    have J : Inv X pins σ (upd H s.heap.objs.size (.tup [x, y])) { s with heap := h'', toks := tk } :=
      I.turnedNew (ch := [n + 4, n + 2, n + 3, n, n + 1]) (fun c o nc q => by
        have nn : c ≠ n + 4 ∧ c ≠ n + 3 ∧ c ≠ n ∧ c ≠ n + 1 := ⟨fun e => nc (by simp [e]), fun e => nc (by simp [e]), fun e => nc (by simp [e]), fun e => nc (by simp [e])⟩
        exact up c o nn.1 (kp c o nn.1 nn.2.1 nn.2.2.1 nn.2.2.2 q)) hf (Nat.le_refl _) new
    refine ⟨.ref s.heap.objs.size, _, J, rfl, ⟨_, x, y, rfl, I.hok.fresh (Nat.le_refl _), rfl, fun l hl => ?_, fun l hl => ?_⟩, ⟨z'', up _ _ (by simp) (kp _ _ (by simp) (by simp) (by simp) (by simp) h2), ⟨u1, u2, up _ _ (by simp) t'⟩, d1.1.at fun o q => up _ o (by simp) q, d2.1.at fun o q => up _ o (by simp) q⟩, fun c hcm => ?_⟩
    · rw [I.list_inj hl qx]; exact hx
    · rw [I.tuple_inj hl qy]; exact hy
    · have lt : c < s.heap.objs.size := by
        obtain ⟨_, e1, _⟩ := l1
        obtain ⟨_, e2, _⟩ := l2
        rcases mem5 hcm with rfl | rfl | rfl | rfl | rfl
        · exact zlt
        · exact Heap.lt_size h2
        · exact Heap.lt_size h3
        · exact Heap.lt_size e1
        · exact Heap.lt_size e2
      rw [upd_ne (Nat.ne_of_lt lt)]
      exact (hf c hcm).1
  done := by
    rintro X rfl rfl rfl hc i pins s σ H E I hf ⟨hz, h2, ⟨x0, y0, h3⟩, l1, l2⟩ ⟨xs, ys, qx, qy, lx, ly, hend⟩
    obtain ⟨us, r1, p1, _⟩ := I.list qx
    obtain ⟨ws, r2, p2, _⟩ := I.tuple qy
    have hh : X.A.in1.handled = none := I.ok.hd hc
    have e1 : us.toArray.size = xs.length := by rw [List.size_toArray, ← r1.length]
    have e2 : ws.toArray.size = ys.length := by rw [List.size_toArray, ← r2.length]
    refine wpAny_pyNext_zipD2_end (i := i) (sepLT ha hb) (Draws.list hh n a (Nat.ne_of_lt ha) us.toArray) (Draws.tuple hh (n + 1) b (Nat.ne_of_lt (Nat.lt_succ_of_lt hb)) ws.toArray) hz h2 h3 ⟨l1, p1.isList⟩ ⟨l2, p2⟩ (by omega) (by omega) (by omega) fun h' tk kp => ⟨rfl, ?_⟩
    exact I.turnedL (ch := [n + 4, n + 2, n + 3, n, n + 1]) (fun c o nc q => kp c o (fun e => nc (by simp [e])) (fun e => nc (by simp [e])) (fun e => nc (by simp [e])) (fun e => nc (by simp [e])) q) hf
def iZipLT (K : PySem.W.Frag) (ta : TA) : TI := fun σ H R => ta σ H fun vs H1 => ∃ a b xs ys, vs = [.ref a, .ref b] ∧ SqL K H1 a xs ∧ SqT K H1 b ys ∧ R (ItzLT K a b) H1
theorem pi_zipLT {X : Cx} {e e2 : Expr} {ta : TA} {p pos tpos : Pos} {elts : List Expr} {kk : Nat} (hg : Gl X "zip") (hm : X.mg "zip" = none) (ha : PA X [e, e2] ta)
    (hs : starEach [e, e2] X.env = (false, eval e X.env) :: starEach [e2] X.env := by rfl) (hpl : (backTo pos (starEach [e2] X.env)).any (·.1) = false := by rfl) :
    PI X (.Tuple elts kk tpos) (.Call (.Name "zip" p) [e, e2] [] pos) (iZipLT X.K ta) := ⟨fun pins s σ H R I h => by
  refine Call_ (ld_blt I hg hm PyProof.Rows.boot_zip (PyProof.Rows.callWith_type1 (thn (ha.run pos pins s σ H _ I h) fun us s1 ⟨vs, H1, I1, r1, a, b, xs, ys, ex, qx, qy, q⟩ => ?_) hs hpl))
  subst ex
  obtain ⟨u1, u2, rfl, ra, rb⟩ := vals2 r1
  obtain rfl : u1 = Value.ref a := ra
  obtain rfl : u2 = Value.ref b := rb
  obtain ⟨its, rv, p1, _⟩ := I1.list qx
  obtain ⟨its2, rv2, p2, _⟩ := I1.tuple qy
  have la : a < s1.heap.objs.size := p1.lt
  have lb : b < s1.heap.objs.size := by
    obtain ⟨o2, ho2, _⟩ := id p2
    exact Heap.lt_size ho2
  refine zip_begins2 (begins_list a its.toArray) (begins_tuple b its2.toArray) p1.isList p2 fun h' hz h2 h3 g1 g2 hsz hk => wpAny_pyIter_zip hz ?_
  have I2 : Inv X pins σ H1 { s1 with heap := h' } := I1.kept (t' := s1.toks) hk
  refine ⟨_, [s1.heap.objs.size + 4, s1.heap.objs.size + 2, s1.heap.objs.size + 3, s1.heap.objs.size, s1.heap.objs.size + 1], _, _, H1, rfl, I2, turnLT la lb, ⟨hz, h2, ⟨_, _, h3⟩, ⟨_, g1, rfl, rfl⟩, ⟨_, g2, rfl, rfl⟩⟩, fun c hc => ?_, q⟩
  have le : s1.heap.objs.size ≤ c := by rcases mem5 hc with rfl | rfl | rfl | rfl | rfl <;> omega
  exact I1.fpOk le (I1.hok.fresh le)⟩
end RD
namespace DL
open PySem PySem.Spec PyProof.Rows L2 RZ RD
theorem takesF {X : Cx} : Takes X fun _ _ _ _ => False := by
  rintro e s ⟨_, _, _, _, _, _, _, _, _, _, _, _, _, _, _, _, z⟩
  exact z.elim
/-- a block without free names, wherever it stands -/
theorem blkOk_nf {N : List Str} {sc scope : Scope} {own : List (Str × Nat)} (sc0 : Scope) (h : blkC N { sc0 with names := [] } scope own = true) : BlkOk N sc scope own := by
  have b := blkOk_by h
  refine ⟨b.kind, b.uniq, b.ix, fun y hy e => ?_, b.own⟩
  rcases b.free y hy e with q | q
  · cases q
  · cases q
theorem pe_joinK {X : Cx} (K : PySem.W.Frag) {o e : Expr} {to te : TE} {apos pos : Pos} (ho : PE X o to) (he : PE X e te) (hK : X.K = K := by rfl) (hs : starEach [e] X.env = [(false, eval e X.env)] := by rfl) (hbase : attributeBase o "join" X.env (eval o X.env) = eval o X.env := by rfl) (hline : (apos.endLine == pos.line) = true := by rfl) :
    PE X (.Call (.Attribute o "join" apos) [e] [] pos) (tM1 (fun x xs H Q => ∃ a p, ∃ ys : List Str, x = .str a ∧ xs = [.ref p] ∧ (SqL K H p (ys.map V.str) ∨ SqT K H p (ys.map V.str)) ∧
      (ys.map (·.length)).sum + ys.length * a.length ≤ 16777216 ∧ Q (.str (Txt.join a ys)) H) to te) := by
  subst hK
  exact pe_join ho he hs hbase hline
theorem pi_tupK {X : Cx} (K : PySem.W.Frag) {tg l : Expr} {tl : TE} (hl : PE X l tl) (hK : X.K = K := by rfl) : PI X tg l (iTup K tl) := by
  subst hK
  exact pi_tup hl
theorem pi_listK {X : Cx} (K : PySem.W.Frag) {tg l : Expr} {tl : TE} (hl : PE X l tl) (hK : X.K = K := by rfl) : PI X tg l (iList K tl) := by
  subst hK
  exact pi_list hl
theorem zipD_min : ∀ xs ys : List D, (zipD xs ys).length = min xs.length ys.length
  | [], _ => by simp [zipD]
  | _ :: _, [] => by simp [zipD]
  | x :: xs, y :: ys => by
    show (zipD xs ys).length + 1 = min (xs.length + 1) (ys.length + 1)
    rw [zipD_min xs ys]
    omega
section
variable {K : PySem.W.Frag} {B : Bx} {Γ : Gam} {tr : TA} {PI : List D → Prop}
theorem wk_zipLT {M : List Addr} {H : Hp} {a b : Addr} {xs ys : List V} {ds es : List D} (h : hid M H a = some (.lst xs)) (hd : DenAll K (hid M H) ds xs) (h' : SqT K (hid M H) b ys) (he : DenAll K (hid M H) es ys) : Wk K B M H (ItzLT K a b) (zipD ds es) := fun H1 g r => by
  have q1 := SqL.of (K := K) (hid_get (rec_sub g r a _ h)).2
  have q2 := SqT.sub hid_sub (SqT.sub (rec_sub g r) h')
  refine ⟨fun i d hi => ?_, ⟨xs, ys, q1, q2, ?_⟩⟩
  · obtain ⟨dx, dy, gx, gy, e⟩ := zipD_get hi
    subst e
    obtain ⟨v, hv, dv⟩ := hd.get gx
    obtain ⟨u, hu, du⟩ := he.get gy
    refine ⟨⟨xs, ys, v, u, q1, q2, hv, hu⟩, fun x H2 y => ?_⟩
    obtain ⟨T, x1, y1, ex, nT, eH, f1, f2⟩ := y
    have e1 := Option.some.inj ((f1 _ q1).symm.trans hv)
    have e2 := Option.some.inj ((f2 _ q2).symm.trans hu)
    subst ex e1 e2 eH
    have rn := g.new (o := .tup [x1, y1]) nT
    exact ⟨rn, .tup (.inl (.inl (hid_of (g.fresh nT) upd_same))) (g.dens rn (.cons (Den.sub (rec_sub g r) _ _ dv) (.cons (Den.sub (rec_sub g r) _ _ du) .nil)))⟩
  · rw [zipD_min, ← hd.length, ← he.length]
    omega
theorem ei_zipLT (h : EvA K B tr Γ fun ds => ∃ xs ys, ds = [.lst xs, .tup ys] ∧ PI (zipD xs ys)) : EvI K B (iZipLT K tr) Γ PI := fun M σ H Rk g x q =>
  h M σ H _ g x fun vs H1 ds r ⟨xs, ys, e, p⟩ dn => by
    subst e
    cases dn with
    | cons d1 d2 =>
      cases d2 with
      | cons d2 d3 =>
        cases d3
        cases d1 with
        | lst a1 a2 =>
          cases d2 with
          | tup b1 b2 =>
            refine ⟨_, _, _, _, rfl, SqL.of (hid_get a1).2, SqT.sub hid_sub b1, q _ H1 _ r p fun M' s1 s2 => ?_⟩
            refine wk_zipLT (hid_of (fun z => ?_) (hid_get a1).2) (dens_up s2 a2) (sqT_up s2 b1) (dens_up s2 b2)
            rcases s2 _ z with z | z
            · exact (hid_get a1).1 z
            · rw [(hid_get a1).2] at z; cases z
end
end DL

set_option maxHeartbeats 4000000
namespace RD
open PySem PySem.Spec PyProof.Rows L2
/-! ### an own == whatever it answers, the own != that comes of it, len and repr -/
theorem looks_head {M : Model} {h : Heap} {a : Addr} {o : Obj} (e : h.get? a = some o) : PySem.W.Looks M h (typeOf (.ref a)) o.cls := (PySem.W.Looks.ld e).andThen .now
/-- what may stand on the right: an instance, a text, a list -/
inductive Oth (K : PySem.W.Frag) (H : Hp) (C : Addr) : V → Value → Prop where
  | ins {b C' dy : Addr} {gs : List (Str × V)} (e : H b = some (.ins C' dy gs)) : Oth K H C (.ref b) (.ref C')
  | str (z : Str) : Oth K H C (.str z) (.type "str")
  | lst {b : Addr} {xs : List V} (e : H b = some (.lst xs)) : Oth K H C (.ref b) (.type "list")
section
variable {X : Cx} {CX : CXT} {pins : List (Addr × Obj)} {σ : L2.St} {H : Hp} {s : Shared} {a C dx p g : Addr} {n : Nat} {sp : Sp} {E : XK} {f : Str}
theorem oth_looks {y : V} {v tb : Value} (I : Inv X pins σ H s) (ry : RelV y v) (o : Oth X.K H C y tb) : PySem.W.Looks (model X.prog X.w) s.heap (typeOf v) tb := by
  cases o with
  | ins e =>
    cases ry
    obtain ⟨_, J, _⟩ := ins_get I.hok e
    obtain ⟨_, J, _⟩ := J.look
    exact J.type
  | str z =>
    obtain ⟨t, rfl⟩ := ry
    exact .of_pure rfl
  | lst e =>
    cases ry
    obtain ⟨_, _, _, _, h1⟩ := I.hok _ _ e
    exact looks_head h1
/-- x op y, x an instance of the class at C -/
def rOwnI (K : PySem.W.Frag) (C : Addr) (sp : Sp) (E : XK) : R2 := fun x y H Q => ∃ a dx fs tb, x = .ref a ∧ H a = some (.ins C dx fs) ∧ Oth K H C y tb ∧ PySem.W.notFirst K C tb = true ∧ sp [x, y] H Q E
theorem op_ownI (F : FnR X.prog X.w X.K X.mg X.base CX n g sp) (hs : PySem.W.findIn X.K (.ref C) "__eq__" = some (some (.ref g))) (hf : PySem.W.isFn X.K (.ref g) = true) (hr : Room n X.A) (hx : Passes CX X E) : OpR X (compareOp .Eq) (rOwnI X.K C sp E) := by
  intro pins s σ H x y v u Q I rx ry h
  obtain ⟨a, dx, fs, tb, rfl, ha, ho, hn, q⟩ := h
  cases rx
  obtain ⟨mA, J, _⟩ := ins_get I.hok ha
  obtain ⟨od, J, _⟩ := J.look
  obtain ⟨m, hF⟩ := I.fr
  show wpAny (model X.prog X.w) X.A (richCompare .Eq (.ref a) u) (EP X pins σ Q) X.xe s
  refine PySem.W.cmp_K (op := .Eq) (tb := tb) hr.units0 hF I.ok.mod.kin J (oth_looks I ry ho) hn hs hf ?_
  refine wpAny_mono (wpAny_call (run_fnR (us := [.ref a, u]) (vs := [.ref a, y]) F hr hx I (.cons rfl (.cons ry .nil)) q)) (fun w s' z => ?_) fun _ _ x => x
  obtain ⟨z', H', I', rz, qz⟩ := z
  exact SlX.cmpback rz ⟨z', H', I', rz, qz⟩
theorem ne_bind (self : Value) : bindSpecial (.builtin "object.__ne__") self = pure (.builtin "object.__ne__", [self]) := PySem.F.slot_object_ne.bind self
/-- the builtin slot as a special method of an instance -/
theorem bound_K {M : Model} {A : Around} {Er : Value → Shared → Prop} {K : PySem.W.Frag} {x : Addr} {ox : Obj} {od : Option Obj} {name : Str} {id : String} {args : List Value} {Q : Option Value → Shared → Prop} (X : K.In s.heap) (I : PySem.W.InstAt s.heap x ox C od)
    (hs : PySem.W.findIn K (.ref C) name = some (some (.builtin id))) (hb : ∀ self, bindSpecial (.builtin id) self = pure (.builtin id, [self])) (h : wpAny M A (call (.builtin id) (.ref x :: args)) (fun v => Q (some v)) Er s) :
    wpAny M A (callSpecialIfBound? (.ref x) name args) Q Er s := by
  simp only [bindSpecialIfBound?, callSpecialIfBound?]
  refine wpAny_holding (wpAny_bind (wpAny_bind (wpAny_bind (I.type.here ((PySem.W.looks_findIn X hs).here ?_)))))
  refine wpAny_bind (wpAny_askSetting (wpAny_ite (?_)))
  have fin : wpAny M A (call (.builtin id) ([.ref x] ++ args) >>= fun v => pure (some v)) Q Er s := wpAny_bind (wpAny_mono h (fun v s' q => wpAny_pure q) fun _ _ q => q)
  split
  · exact wpAny_bind ((PySem.W.Looks.of_pure (hb _)).here (wpAny_pure fin))
  · exact wpAny_tryCatch (wpAny_bind ((PySem.W.Looks.of_pure (hb _)).here (wpAny_pure fin)))
/-- object.__ne__ of an instance with an own == -/
theorem ne_call {A : Around} {Er : Value → Shared → Prop} {K : PySem.W.Frag} {x : Addr} {v : Value} {ox : Obj} {od : Option Obj} {Q : Value → Shared → Prop} {w : World} {pr : Program} (hu : A.in1.units < cLine) (Y : K.In s.heap) (I : PySem.W.InstAt s.heap x ox C od)
    (hm : PySem.W.mroIn K C (.type "object") = some true) (hs : PySem.W.findIn K (.ref C) "__eq__" = some (some (.ref g))) (hf : PySem.W.isFn K (.ref g) = true)
    (h : wpAny (model pr w) A.in1 (call (.ref g) [.ref x, v]) (fun r s' => ∃ b, r = .bool b ∧ Q (.bool (!b)) s') Er s) : wpAny (model pr w) A (call (.builtin "object.__ne__") [.ref x, v]) Q Er s := by
  refine wpAny_call (codeAny_call_builtin PySem.F.slot_object_ne.plain PySem.F.entry_object_ne (PySem.W.check_slot (owner := "object") (n := "__ne__") (i := "object.__ne__") (by decide +kernel) (by decide +kernel) (I.type.andThen (PySem.W.looks_mroIn Y hm)) (PySem.F.args_object_ne_2 _ _) ?_))
  unfold Builtin.«object.__ne__»
  refine wpAny_bind (m := slotArgs "__ne__" 1 _) (wpAny_pure ?_)
  refine wpAny_bind (m := cRoomFor _ _) (wpAny_cRoomFor hu ?_)
  refine wpAny_bind (m := callSpecialIfBound? (.ref x) (Str.ofString "__eq__") _) (PySem.W.ifBound_K Y I hs hf (wpAny_mono h (fun r s' hq => ?_) fun _ _ y => y))
  obtain ⟨b, rfl, q⟩ := hq
  refine wpAny_bind (m := truthy (.bool b)) (wpAny_truthy_bool ?_)
  exact wpAny_pure q
/-- x != v, both of the class at C -/
theorem ne_rich {A : Around} {Er : Value → Shared → Prop} {K : PySem.W.Frag} {x : Addr} {v : Value} {ox : Obj} {od : Option Obj} {Q : Value → Shared → Prop} {w : World} {pr : Program} (hu : A.in1.units < cLine) (hv : A.units < cLine) (Y : K.In s.heap) (I : PySem.W.InstAt s.heap x ox C od)
    (hl : PySem.W.Looks (model pr w) s.heap (typeOf v) (.ref C)) (hn : PySem.W.findIn K (.ref C) "__ne__" = some (some (.builtin "object.__ne__")))
    (hm : PySem.W.mroIn K C (.type "object") = some true) (hs : PySem.W.findIn K (.ref C) "__eq__" = some (some (.ref g))) (hf : PySem.W.isFn K (.ref g) = true)
    (h : wpAny (model pr w) A.in1 (call (.ref g) [.ref x, v]) (fun r s' => ∃ b, r = .bool b ∧ Q (.bool (!b)) s') Er s) : wpAny (model pr w) A (richCompare .NotEq (.ref x) v) Q Er s := by
  have one : wpAny (model pr w) A (tryCompare (.ref x) "__ne__" v) (fun r s' => ∃ b, r = some (.bool b) ∧ Q (.bool b) s') Er s := by
    unfold tryCompare
    refine wpAny_bind (bound_K Y I hn ne_bind (ne_call hu Y I hm hs hf (wpAny_mono h (fun r s' hq => ?_) fun _ _ e => e)))
    obtain ⟨b, rfl, q⟩ := hq
    exact ⟨b, rfl, wpAny_pure ⟨_, rfl, q⟩⟩
  unfold richCompare
  simp only [oneThing_ref]
  refine wpAny_holding (wpAny_bind (wpAny_cRoomFor hv (wpAny_bind (I.type.here (wpAny_bind (hl.here ?_))))))
  simp only [bne_self_eq_false, Bool.false_eq_true, if_false]
  refine wpAny_bind (wpAny_pure ?_)
  refine wpAny_bind (wpAny_mono one (fun r s' z => ?_) fun _ _ e => e)
  obtain ⟨b, rfl, q⟩ := z
  exact wpAny_pure q
/-- x != y, x and y instances of the class at C; sp is what the own == promises -/
def rNeI (C : Addr) (sp : Sp) (E : XK) : R2 := fun x y H Q => ∃ a dx fs b dy gs, x = .ref a ∧ y = .ref b ∧ H a = some (.ins C dx fs) ∧ H b = some (.ins C dy gs) ∧ sp [x, y] H (fun v H' => ∃ k, v = .bl k ∧ Q (.bl (!k)) H') E
theorem op_neI (F : FnR X.prog X.w X.K X.mg X.base CX n g sp) (hs : PySem.W.findIn X.K (.ref C) "__eq__" = some (some (.ref g))) (hf : PySem.W.isFn X.K (.ref g) = true) (hn : PySem.W.findIn X.K (.ref C) "__ne__" = some (some (.builtin "object.__ne__")))
    (hm : PySem.W.mroIn X.K C (.type "object") = some true) (hr : Room (n + 1) X.A) (hx : Passes CX X E) : OpR X (compareOp .NotEq) (rNeI C sp E) := by
  intro pins s σ H x y v u Q I rx ry h
  obtain ⟨a, dx, fs, b, dy, gs, rfl, rfl, ha, hb, q⟩ := h
  cases rx
  cases ry
  obtain ⟨_, J, _⟩ := ins_get I.hok ha
  obtain ⟨_, J', _⟩ := ins_get I.hok hb
  obtain ⟨od, J, _⟩ := J.look
  obtain ⟨od', J', _⟩ := J'.look
  have h1 : Room n X.A.in1 := hr.in1
  show wpAny (model X.prog X.w) X.A (richCompare .NotEq (.ref a) (.ref b)) (EP X pins σ Q) X.xe s
  refine ne_rich h1.units0 hr.units0 I.kIn J J'.type hn hm hs hf (wpAny_mono (wpAny_call (SlX.run_at (us := [.ref a, .ref b]) (ws := [.ref a, .ref b]) F h1 I.env0.in1 hx I (.cons rfl (.cons rfl .nil)) q)) (fun r s' z => ?_) fun _ _ x => x)
  obtain ⟨v', H', I', rz, k, ek, qk⟩ := z
  subst ek
  cases rz
  exact ⟨k, rfl, .bl (!k), H', I', rfl, qk⟩
/-- len(x) of an instance whose class has an own __len__ -/
def rLenI (C : Addr) (sp : Sp) (E : XK) : List V → Hp → VK → Prop := fun xs H Q => ∃ a dx fs, xs = [V.ref a] ∧ H a = some (.ins C dx fs) ∧ sp [.ref a] H (fun v H' => ∃ k : Nat, k < 2 ^ 63 ∧ v = .int (k : Int) ∧ Q v H') E
theorem call_lenI (F : FnR X.prog X.w X.K X.mg X.base CX n g sp) (hs : PySem.W.findIn X.K (.ref C) "__len__" = some (some (.ref g))) (hf : PySem.W.isFn X.K (.ref g) = true) (hr : Room (n + 1) X.A) (hx : Passes CX X E) : CallR X (.builtin "len") (rLenI C sp E) := by
  intro pins s σ H xs us Q I r h
  obtain ⟨a, dx, fs, rfl, ha, q⟩ := h
  obtain ⟨u, rfl, ru⟩ := r.one
  cases (show u = Value.ref a from ru)
  obtain ⟨_, J, _⟩ := ins_get I.hok ha
  obtain ⟨od, J, _⟩ := J.look
  obtain ⟨m, hF⟩ := I.fr
  refine PySem.W.len_K hF I.ok.mod.kin J hs hf (wpAny_mono (wpAny_call (SlX.run_at (us := [.ref a]) (ws := [.ref a]) F hr.in1 I.env0.in1 hx I (.cons rfl .nil) q)) (fun r s' z => ?_) fun _ _ x => x)
  obtain ⟨v', H', I', rz, k, hk, ek, qk⟩ := z
  subst ek
  obtain ⟨t, e⟩ := (show ∃ t, r = Value.int (k : Int) t from rz)
  cases e
  exact ⟨⟨by omega, by omega⟩, .int (k : Int), H', I'.tok _, ⟨_, rfl⟩, qk⟩
/-- repr(x) of an instance whose class has an own __repr__ -/
def rReprI (C : Addr) (sp : Sp) (E : XK) : List V → Hp → VK → Prop := fun xs H Q => ∃ a dx fs, xs = [V.ref a] ∧ H a = some (.ins C dx fs) ∧ sp [.ref a] H (fun v H' => ∃ z, v = .str z ∧ Q v H') E
theorem call_reprI (F : FnR X.prog X.w X.K X.mg X.base CX n g sp) (hs : PySem.W.findIn X.K (.ref C) "__repr__" = some (some (.ref g))) (hf : PySem.W.isFn X.K (.ref g) = true) (hr : Room (n + 1) X.A) (hx : Passes CX X E) : CallR X (.builtin "repr") (rReprI C sp E) := by
  intro pins s σ H xs us Q I r h
  obtain ⟨a, dx, fs, rfl, ha, q⟩ := h
  obtain ⟨u, rfl, ru⟩ := r.one
  cases (show u = Value.ref a from ru)
  obtain ⟨_, J, _⟩ := ins_get I.hok ha
  obtain ⟨od, J, _⟩ := J.look
  obtain ⟨m, hF⟩ := I.fr
  have h1 : Room n X.A.in1 := hr.in1
  refine PySem.W.repr_K h1.units0 hF I.ok.mod.kin J hs hf (wpAny_mono (wpAny_call (SlX.run_at (us := [.ref a]) (ws := [.ref a]) F h1 I.env0.in1 hx I (.cons rfl .nil) q)) (fun r s' z => ?_) fun _ _ x => x)
  obtain ⟨v', H', I', rz, y, ey, qy⟩ := z
  subst ey
  obtain ⟨t, e⟩ := (show ∃ t, r = Value.str y t from rz)
  cases e
  exact ⟨.str y, H', I', ⟨t, rfl⟩, qy⟩
end
end RD
namespace DL
open PySem PySem.Spec PyProof.Rows L2 RZ RD
section
variable {K : PySem.W.Frag} {B : Bx} {Γ : Gam} {ta tb te : TE} {tr : TA} {C : Addr} {P : D → Prop} {F : Bx → List D → (D → Prop) → Prop} {E0 : XK}
/-- what may stand on the right, as data -/
def othD (C : Addr) (d : D) : Prop := (∃ ns ds, d = .ins C ns ds) ∨ (∃ z, d = .str z) ∨ ∃ ds, d = .lst ds
theorem ev_eqI (ns : PySem.W.notFirst K C (.type "str") = true) (nl : PySem.W.notFirst K C (.type "list") = true) (h : Ev K B ta Γ fun d => ∃ fs ds, d = .ins C fs ds ∧ Ev K B tb Γ fun e => othD C e ∧ F B [d, e] P) : Ev K B (tOp (rOwnI K C (SpD K 2 F) E0) ta tb) Γ P := fun M σ H Q g x q =>
  h M σ H _ g x fun v H1 d r1 ⟨fs, ds, ed, p1⟩ d1 => p1 M σ H1 _ (g.r r1) (x.r g r1) fun u H2 e r2 ⟨o, p⟩ d2 => by
    have d1' := (g.r r1).den r2 d1
    have r12 := r1.trans r2
    have sp : SpD K 2 F [v, u] H2 Q E0 := ⟨rfl, B, M, [d, e], P, g.r r12, .cons d1' (.cons d2 .nil), p, fun v H' d r3 p3 h3 => q v H' d (r12.trans r3) p3 h3⟩
    subst ed
    cases d1' with
    | ins ea ln dw =>
      have key : ∃ tb, Oth K H2 C u tb ∧ PySem.W.notFirst K C tb = true := by
        rcases o with ⟨ns', ds', rfl⟩ | ⟨z, rfl⟩ | ⟨ds', rfl⟩
        · cases d2 with
          | ins eb _ _ => exact ⟨_, .ins (hid_get eb).2, by simp [PySem.W.notFirst]⟩
        · cases d2
          exact ⟨_, .str z, ns⟩
        · cases d2 with
          | lst eb _ => exact ⟨_, .lst (hid_get eb).2, nl⟩
      obtain ⟨t, ho, hn⟩ := key
      exact ⟨_, _, _, t, rfl, (hid_get ea).2, ho, hn, sp⟩
theorem ev_neI (h : Ev K B ta Γ fun d => ∃ fs ds, d = .ins C fs ds ∧ Ev K B tb Γ fun e => (∃ fs ds, e = .ins C fs ds) ∧ F B [d, e] fun k => ∃ b, k = .bl b ∧ P (.bl (!b))) : Ev K B (tOp (rNeI C (SpD K 2 F) E0) ta tb) Γ P := fun M σ H Q g x q =>
  h M σ H _ g x fun v H1 d r1 ⟨fs, ds, ed, p1⟩ d1 => p1 M σ H1 _ (g.r r1) (x.r g r1) fun u H2 e r2 ⟨⟨gs, es, ee⟩, p⟩ d2 => by
    have d1' := (g.r r1).den r2 d1
    have r12 := r1.trans r2
    have sp : SpD K 2 F [v, u] H2 (fun v H' => ∃ k, v = .bl k ∧ Q (.bl (!k)) H') E0 := ⟨rfl, B, M, [d, e], _, g.r r12, .cons d1' (.cons d2 .nil), p, fun v H' d r3 ⟨b, eb, p3⟩ h3 => by
      subst eb
      cases h3
      exact ⟨b, rfl, q _ H' _ (r12.trans r3) p3 (.bl _)⟩⟩
    subst ed ee
    cases d1' with
    | ins ea ln dw =>
      cases d2 with
      | ins eb ln2 dw2 => exact ⟨_, _, _, _, _, _, rfl, rfl, (hid_get ea).2, (hid_get eb).2, sp⟩
theorem ev_lenI (h : EvA K B tr Γ fun ds => ∃ fs es, ds = [.ins C fs es] ∧ F B ds fun k => ∃ n : Nat, n < 2 ^ 63 ∧ k = .int (n : Int) ∧ P k) : Ev K B (tCB (rLenI C (SpD K 1 F) E0) tr) Γ P := fun M σ H Q g x q =>
  h M σ H _ g x fun vs H1 ds r1 ⟨fs, es, ed, p⟩ dn => by
    have sp : SpD K 1 F vs H1 (fun v H' => ∃ k : Nat, k < 2 ^ 63 ∧ v = .int (k : Int) ∧ Q v H') E0 := ⟨by rw [← dn.length, ed]; rfl, B, M, ds, _, g.r r1, dn, p, fun v H' d r3 ⟨n, hn, eb, p3⟩ h3 => by
      subst eb
      cases h3
      exact ⟨n, hn, rfl, q _ H' _ (r1.trans r3) p3 (.int _)⟩⟩
    subst ed
    cases dn with
    | cons d1 d2 =>
      cases d2
      cases d1 with
      | ins ea ln dw => exact ⟨_, _, _, rfl, (hid_get ea).2, sp⟩
theorem ev_reprI (h : EvA K B tr Γ fun ds => ∃ fs es, ds = [.ins C fs es] ∧ F B ds fun k => ∃ z, k = .str z ∧ P k) : Ev K B (tCB (rReprI C (SpD K 1 F) E0) tr) Γ P := fun M σ H Q g x q =>
  h M σ H _ g x fun vs H1 ds r1 ⟨fs, es, ed, p⟩ dn => by
    have sp : SpD K 1 F vs H1 (fun v H' => ∃ z, v = .str z ∧ Q v H') E0 := ⟨by rw [← dn.length, ed]; rfl, B, M, ds, _, g.r r1, dn, p, fun v H' d r3 ⟨z, eb, p3⟩ h3 => by
      subst eb
      cases h3
      exact ⟨z, rfl, q _ H' _ (r1.trans r3) p3 (.str _)⟩⟩
    subst ed
    cases dn with
    | cons d1 d2 =>
      cases d2
      cases d1 with
      | ins ea ln dw => exact ⟨_, _, _, rfl, (hid_get ea).2, sp⟩
end
end DL

set_option maxHeartbeats 4000000
/-! for use in d.items(), use one name, a dict of one entry at most -/
namespace RE
open PySem PySem.Spec PyProof.Rows L2
/-- as Iti, for a dict with one entry at most -/
def Iti1 (d : Addr) (o : Obj) (kvs : List (Key × V)) : It :=
  ⟨fun i H => H d = some (.frz o (.dK kvs)) ∧ i < kvs.length ∧ i = 0, fun i H x H' => ∃ T k v, kvs[i]? = some (k, v) ∧ x = .ref T ∧ H T = none ∧ H' = upd H T (.tup [kV k, v]), fun i H => H d = some (.frz o (.dK kvs)) ∧ kvs.length ≤ i⟩
section
variable {P : Program} {w : World} {K : PySem.W.Frag} {d : Addr} {o : Obj} {es : Array DictEntry} {ep : Nat}
/-- how far the iterator at it is: not begun, or behind the one entry, whose tuple somebody keeps -/
def At1 (it d n ep : Nat) (i : Nat) (h : Heap) : Prop := (i = 0 ∧ ∃ ok ov, IsItemIter h it d i n ep ok ov) ∨ (1 ≤ i ∧ ∃ ok ov a f, PySem.W.KdxIt h it d i n ep ok ov a f)
theorem At1.obj {it d n ep i : Nat} {h : Heap} (x : At1 it d n ep i h) : ∃ vs, h.get? it = some { cls := .type "dict_itemiterator", dict := none, data := .fields vs, slots := #[] } := by
  rcases x with ⟨_, _, _, e⟩ | ⟨_, _, _, _, _, e⟩ <;> exact ⟨_, e⟩
theorem At1.keep {it d n ep i : Nat} {h h' : Heap} (x : At1 it d n ep i h) (k : ∀ o, h.get? it = some o → h'.get? it = some o) : At1 it d n ep i h' := by
  rcases x with ⟨z, p, q, e⟩ | ⟨z, p, q, r, f, e⟩
  · exact Or.inl ⟨z, p, q, k _ e⟩
  · exact Or.inr ⟨z, p, q, r, f, k _ e⟩
theorem turn_items1 {kvs : List (Key × V)} {x : Str} {np : Pos} (it : Addr) (hod : o.data = .dict es ep) : Turn P w K (.Name x np) (Iti1 d o kvs) [it] it (At1 it d kvs.length ep) where
  mem := List.mem_singleton.mpr rfl
  obj := fun i h st b hb => by
    obtain ⟨vs, e⟩ := st.obj
    rw [List.mem_singleton.mp hb]
    exact ⟨_, e, fun v z => by cases z⟩
  keep := fun i h h' st k => st.keep (k it (List.mem_singleton.mpr rfl))
  item := by
    rintro X rfl rfl rfl _ i pins s σ H E I free st ⟨frozen, inside, start⟩
    obtain ⟨_, _, _, es₂, ep₂, ws, dat, _, pairs, stands⟩ := I.frzK frozen
    obtain ⟨e1, e2⟩ := dict_ep hod dat
    subst e1 e2
    have same : kvs.length = ws.length := pairs.length
    obtain ⟨k, v, at_⟩ : ∃ k v, kvs[i]? = some (k, v) := ⟨_, _, List.getElem?_eq_getElem inside⟩
    obtain ⟨u, atw, rel⟩ := kv_get pairs at_
    rcases st with ⟨_, p, q, here⟩ | ⟨z, _⟩
    · rw [same] at here
      have below : it < s.heap.objs.size := Heap.lt_size here
      refine wpAny_pyNext_items_item here stands atw fun key h₂ isKey out tup _ old => ⟨_, rfl, wpAny_pure ?_⟩
      have fresh : ObjOk X.prog X.w (upd H s.heap.objs.size (.tup [kV k, v])) h₂ s.heap.objs.size (.tup [kV k, v]) := by
        refine ⟨?_, [key, u], .cons (relV_key isKey) (.cons rel .nil), ⟨_, tup, rfl, _, rfl⟩⟩
        show 2 ≤ sizeLine
        decide
      refine ⟨.ref s.heap.objs.size, _, I.turnedNew (t' := s.toks) (ch := [it]) (fun b ob nb e => old b ob (fun z => nb (List.mem_singleton.mpr z)) e) free (Nat.le_refl _) fresh, rfl, ⟨_, k, v, at_, rfl, I.hok.fresh (Nat.le_refl _), rfl⟩, ?_, fun b hb => ?_⟩
      · refine .inr ⟨Nat.le_add_left 1 i, key, u, s.heap.objs.size, false, ?_⟩
        rw [same]
        exact out
      · have eb := List.mem_singleton.mp hb
        subst eb
        rw [upd_ne (Nat.ne_of_lt below)]
        exact (free b hb).1
    · omega
  done := by
    rintro X rfl rfl rfl calm i pins s σ H E I free st ⟨frozen, over⟩
    obtain ⟨_, _, _, es₂, ep₂, ws, dat, _, pairs, stands⟩ := I.frzK frozen
    obtain ⟨e1, e2⟩ := dict_ep hod dat
    subst e1 e2
    have same : kvs.length = ws.length := pairs.length
    have none_ : ws[i]? = none := List.getElem?_eq_none (by omega)
    obtain ⟨a0, a1, a2, a3, a4, a5⟩ := free it (List.mem_singleton.mpr rfl)
    have back : ∀ h₂ : Heap, Heap.ExtBut it s.heap h₂ → Inv X pins σ H { s with heap := h₂ } := fun h₂ eb => I.turned (t' := s.toks) (fun b ob nb e => eb b ob nb e) a0 a1 a3 a4 a5
    rcases st with ⟨_, p, q, here⟩ | ⟨_, p, q, r, f, here⟩ <;> rw [same] at here
    · exact wpAny_pyNext_items_end (I.ok.hd calm) here stands none_ fun h₂ eb => ⟨rfl, back h₂ eb⟩
    · exact PySem.W.kdx_end_out (I.ok.hd calm) here stands none_ fun h₂ eb => ⟨rfl, back h₂ eb⟩
  self := fun A i s Q E st h => by
    obtain ⟨vs, e⟩ := st.obj
    have T : s.TypeIs (.ref it) "dict_itemiterator" := ⟨_, e, rfl⟩
    refine wpAny_pyIter_slot T F.slot_dict_itemiterator_iter (wpAny_call_entry F.slot_dict_itemiterator_iter T PySem.W.kcp_entry ?_ (F.args_dict_itemiterator_iter_1 _))
    show wpAny _ _ (ret (.ref it)) _ _ _
    exact wpAny_pure ⟨_, rfl, _, _, T, F.slot_dict_itemiterator_next.lookup, h⟩
end
def iItems1 (td : TE) : TI := fun σ H R => td σ H fun x H1 => ∃ d o kvs, x = .ref d ∧ H1 d = some (.frz o (.dK kvs)) ∧ R (Iti1 d o kvs) H1
section
variable {X : Cx} {e : Expr} {td : TE} {apos cpos np : Pos} {x : Str}
theorem pi_items1 (he : PE X e td) (hbase : attributeBase e "items" X.env (eval e X.env) = eval e X.env := by rfl) (hline : (apos.endLine == cpos.line) = true := by rfl) :
    PI X (.Name x np) (.Call (.Attribute e "items" apos) [] [] cpos) (iItems1 td) := ⟨fun pins s σ H R I h => by
  refine wpAny_Call_method (T := "dict") (id := "dict.items") hbase rfl hline F.plainAttrs_dict F.slot_dict_items F.type_dict_items (thn (he.run pins s σ H _ I h) ?_)
  rintro u s₂ ⟨y, H₂, I₂, ry, d, o, kvs, rfl, frozen, q⟩
  cases ry
  obtain ⟨lo, _, _, es, ep, ws, dat, _, pairs, stands⟩ := I₂.frzK frozen
  have same : kvs.length = ws.length := pairs.length
  have view : Inv X pins σ H₂ { s₂ with heap := s₂.heap.push { cls := .type "dict_items", data := .fields #[.ref d] } } := I₂.kept (t' := s₂.toks) fun b ob e => Heap.get?_push_of_some _ e
  refine ⟨stands.dictOf.typeIs, stands.dictOf.mapOf.noDict, ?_⟩
  refine method_meetsIn F.slot_dict_items F.entry_dict_items rfl (PySem.evalArgs_none ⟨rfl, stands.dictOf.typeIs, F.args_dict_items_1 _, _, meets_dict_items (mixKind X.prog X.w) d lo, ⟨ws, stands.dictOf⟩, ?_⟩)
  refine wpAny_pyIter_items (d := d) (knd := mixKind X.prog X.w) ⟨_, Heap.get?_push_size _ rfl, rfl, rfl⟩ (stands.push _) (pi_one (tk := s₂.toks) view _ (turn_items1 _ dat) (.inl ⟨rfl, .none, .none, ?_⟩) q)
  rw [same]
  exact Heap.get?_push_size _ rfl⟩
theorem pi_itemsL1 (he : PE X e td) (hbase : attributeBase e "items" X.env (eval e X.env) = eval e X.env := by rfl) (hline : (apos.endLine == cpos.line) = true := by rfl) :
    PI X (.Name x np) (.Call (.Attribute e "items" apos) [] [] cpos) (iItems1 (RD.tLock td)) := pi_items1 (RD.pe_lock he) hbase hline
end
end RE

set_option maxHeartbeats 4000000
/-! over data: comprehensions with two fors, of dicts; items of a dict with one entry -/
namespace DL
open PySem PySem.Spec PyProof.Rows L2 RZ RD RE
section
variable {K : PySem.W.Frag} {B : Bx} {M : List Addr} {H H1 : Hp} {Γ : Gam} {te ta tb tc tk tv : TE} {t : TT} {tr : TA} {wi wi1 : TI} {g g1 : TG} {P : D → Prop}
theorem ei_itemsF1 {PI : List D → Prop} (h : EvF K B te Γ fun kvs => kvs.length ≤ 1 ∧ (∀ kv, kv ∈ kvs → ∃ i, kv.2 = .int i) ∧ PI (kvs.map kvD)) : EvI K B (iItems1 (tLock te)) Γ PI := fun M σ H Rk g x q =>
  h M σ H _ g x fun p H1 kvs hp r1 h1 ⟨one, hf, p1⟩ => by
    refine ⟨p, kvs, rfl, h1, fun o => ⟨p, o, kvs, rfl, upd_same, ?_⟩⟩
    have pb : B.No p := g.fresh_b hp
    have pl : p ≠ B.l := g.fresh_l hp
    have r2 : R K B H (upd H1 p (.frz o (.dK kvs))) := r1.putNew hp pb pl (.of h1 fun φ z => by cases z)
    refine q _ _ _ r2 p1 fun M' s1 s2 => fun H3 g3 rv => ?_
    have h3 : H3 p = some (.frz o (.dK kvs)) := rv p _ (hid_of (fun z => by
      rcases s2 _ z with z | z
      · exact g.fresh hp z
      · rw [upd_same] at z; cases z) upd_same)
    refine ⟨fun i d hi => ?_, ⟨h3, by rw [List.length_map]; exact Nat.le_refl _⟩⟩
    rw [List.getElem?_map] at hi
    obtain ⟨kv, hkv, rfl⟩ := Option.map_eq_some_iff.mp hi
    have il := (List.getElem?_eq_some_iff.mp hkv).1
    refine ⟨⟨h3, il, by omega⟩, fun v H4 y => ?_⟩
    obtain ⟨T, k, v0, hk, ex, nT, eH⟩ := y
    rw [hkv] at hk
    cases hk
    subst ex eH
    have r4 := g3.new (o := .tup [kV k, v0]) nT
    refine ⟨r4, .tup (.inl (.inl (hid_of (g3.fresh nT) upd_same))) (.cons (keyD_at k) (.cons ?_ .nil))⟩
    obtain ⟨i, e⟩ := hf (k, v0) (List.mem_of_getElem? hkv)
    have e' : v0 = .int i := e
    subst e'
    exact .int _
/-- the state while a new object stands at p, all else as at H1 -/
theorem env_behind {p : Addr} {σ : L2.St} {H3 : Hp} (x1 : EnvOk K M H1 σ Γ) (hp : H1 p = none) (r : R K B H1 H3) (hb : ∀ {a}, a ∉ M → B.No a) : EnvOk K (p :: M) H3 σ Γ := ⟨x1.len, fun k e hk => by
  obtain ⟨u, hu, du⟩ := x1.at_ k e hk
  exact ⟨u, hu, Den.sub (fun a o ha => by
    obtain ⟨n, qa⟩ := hid_get ha
    have na : a ≠ p := ne_of_none qa hp
    refine hid_of (fun z => ?_) (r.2 a o qa (hb n))
    rcases List.mem_cons.mp z with z | z
    · exact na z
    · exact n z) e u du⟩⟩
/-- [e for a in x if t for b in y if u], by an invariant of both loops -/
theorem ev_lc2 {tt tt1 : TT} {vs vs1 : List Nat} (hi : EvI K B wi Γ fun ds => ∃ I : Nat → List D → Prop, I 0 [] ∧
      (∀ i d acc, ds[i]? = some d → I i acc → EvG K B g vs (wipeG Γ vs) d fun Γ' => EvT K B tt Γ' fun k => if k = true then EvI K B wi1 Γ' fun es => ∃ I1 : Nat → List D → Prop, I1 0 acc ∧
        (∀ j e acc1, es[j]? = some e → I1 j acc1 → EvG K B g1 vs1 (wipeG Γ' vs1) e fun Γ2 => EvT K B tt1 Γ2 fun k1 => if k1 = true then Ev K B te Γ2 fun y => acc1.length < sizeLine ∧ I1 (j + 1) (acc1 ++ [y]) else I1 (j + 1) acc1) ∧
        (∀ acc1, I1 es.length acc1 → I (i + 1) acc1) else I (i + 1) acc) ∧
      ∀ acc, I ds.length acc → P (.lst acc)) : Ev K B (tLc2 wi g tt wi1 g1 tt1 te vs vs1) Γ P := fun M σ H Q gd x q =>
  hi M σ H _ gd x fun J H1 ds r1 ⟨I, i0, it, ie⟩ wk p hp => by
    have g1' := gd.r r1
    have x1 := x.r gd r1
    have pb := g1'.fresh_b hp
    have pl := g1'.fresh_l hp
    have w := wk (p :: M) (fun a ha => List.mem_cons_of_mem _ ha) (fun a ha => by
      rcases List.mem_cons.mp ha with e | ha
      · exact .inr (by rw [e]; exact hp)
      · exact .inl ha)
    refine ⟨fun i m H2 => m = ds.length - i ∧ i ≤ ds.length ∧ ∃ acc av, Good K B (p :: M) H2 ∧ R K B H1 H2 ∧ H2 p = some (.lst av) ∧ DenAll K (hid (p :: M) H2) acc av ∧ I i acc,
      ⟨ds.length, by simp, Nat.zero_le _, [], [], g1'.own hp, g1'.new hp, upd_same, .nil, i0⟩, ?_⟩
    rintro i m H2 ⟨rfl, hil, acc, av, g2, r2, hp2, da, hI⟩
    obtain ⟨wy, ws⟩ := w H2 g2 (r2.v g2.no)
    by_cases hlt : i < ds.length
    · have hd : ds[i]? = some ds[i] := List.getElem?_eq_getElem hlt
      obtain ⟨wg, wn⟩ := wy i _ hd
      refine .inr ⟨wg, fun H3 => ∃ acc av, Good K B (p :: M) H3 ∧ R K B H1 H3 ∧ H3 p = some (.lst av) ∧ DenAll K (hid (p :: M) H3) acc av ∧ I (i + 1) acc,
        fun H' h' => ⟨ds.length - (i + 1), by omega, rfl, hlt, h'⟩, fun v H3 hy => ?_⟩
      obtain ⟨r3, dv⟩ := wn v H3 hy
      have g3 := g2.r r3
      have x3 : EnvOk K (p :: M) H3 σ Γ := env_behind x1 hp (r2.trans r3) g1'.no
      refine it i _ acc hd hI (p :: M) (L2.wipe σ vs) H3 v _ g3 (x3.wipe vs) dv fun σ' Γ' pg x4 hlen hout => ?_
      refine ⟨wipe_eq (by rw [hlen, L2.wipe_length]) hout, ?_⟩
      refine pg (p :: M) σ' H3 _ g3 x4 fun k H4 r4 pk => ?_
      have g4 := g3.r r4
      have r14 := r2.trans (r3.trans r4)
      have hp4 := (r3.trans r4).2 p _ hp2 pb
      have da4 := g2.dens (r3.trans r4) da
      cases k with
      | false =>
        rw [if_neg Bool.false_ne_true] at pk ⊢
        exact ⟨acc, av, g4, r14, hp4, da4, pk⟩
      | true =>
        rw [if_pos rfl] at pk ⊢
        have x5 := x4.r g3 r4
        refine pk (p :: M) σ' H4 _ g4 x5 fun J1 H5 es r5 ⟨I1, j0, jt, je⟩ wk1 => ?_
        have g5 := g4.r r5
        have w1 := wk1 (p :: M) (fun a ha => ha) fun a ha => .inl ha
        refine ⟨fun j m H6 => m = es.length - j ∧ j ≤ es.length ∧ ∃ acc1 av1, Good K B (p :: M) H6 ∧ R K B H1 H6 ∧ (∀ a o, H5 a = some o → B.No a → a ≠ p → H6 a = some o) ∧ H6 p = some (.lst av1) ∧ DenAll K (hid (p :: M) H6) acc1 av1 ∧ I1 j acc1,
          ⟨es.length, by simp, Nat.zero_le _, acc, av, g5, r14.trans r5, fun a o e _ _ => e, r5.2 p _ hp4 pb, g4.dens r5 da4, j0⟩, ?_⟩
        rintro j m H6 ⟨rfl, hjl, acc1, av1, g6, r6, k6, hp6, da6, hJ⟩
        have v6 : Rv (p :: M) H5 H6 := fun a o e => by
          obtain ⟨n, qa⟩ := hid_get e
          exact k6 a o qa (g6.no n) fun z => n (by rw [z]; exact List.mem_cons_self)
        obtain ⟨wy1, ws1⟩ := w1 H6 g6 v6
        by_cases hlt1 : j < es.length
        · have he : es[j]? = some es[j] := List.getElem?_eq_getElem hlt1
          obtain ⟨wg1, wn1⟩ := wy1 j _ he
          refine .inr ⟨wg1, fun H7 => ∃ acc1 av1, Good K B (p :: M) H7 ∧ R K B H1 H7 ∧ (∀ a o, H5 a = some o → B.No a → a ≠ p → H7 a = some o) ∧ H7 p = some (.lst av1) ∧ DenAll K (hid (p :: M) H7) acc1 av1 ∧ I1 (j + 1) acc1,
            fun H' h' => ⟨es.length - (j + 1), by omega, rfl, hlt1, h'⟩, fun v1 H7 hy1 => ?_⟩
          obtain ⟨r7, dv1⟩ := wn1 v1 H7 hy1
          have g7 := g6.r r7
          have x7 : EnvOk K (p :: M) H7 σ' Γ' := ⟨x5.len, fun k e hk => by
            obtain ⟨u, hu, du⟩ := x5.at_ k e hk
            exact ⟨u, hu, g6.den r7 (Den.sub (fun a o ha => by
              obtain ⟨n, qa⟩ := hid_get ha
              exact hid_of n (k6 a o (r5.2 a o qa (g4.no n)) (g4.no n) fun z => n (by rw [z]; exact List.mem_cons_self))) e u du)⟩⟩
          refine jt j _ acc1 he hJ (p :: M) (L2.wipe σ' vs1) H7 v1 _ g7 (x7.wipe vs1) dv1 fun σ2 Γ2 pg1 x8 hlen1 hout1 => ?_
          refine ⟨wipe_eq (by rw [hlen1, L2.wipe_length]) hout1, ?_⟩
          refine pg1 (p :: M) σ2 H7 _ g7 x8 fun k1 H8 r8 pk1 => ?_
          have g8 := g7.r r8
          have r78 := r7.trans r8
          cases k1 with
          | false =>
            rw [if_neg Bool.false_ne_true] at pk1 ⊢
            exact ⟨acc1, av1, g8, r6.trans r78, fun a o e n1 n2 => r78.2 a o (k6 a o e n1 n2) n1, r78.2 p _ hp6 pb, g6.dens r78 da6, pk1⟩
          | true =>
            rw [if_pos rfl] at pk1 ⊢
            refine pk1 (p :: M) σ2 H8 _ g8 (x8.r g7 r8) fun y H9 e r9 ⟨lz, pe⟩ de => ?_
            have g9 := g8.r r9
            have r79 := r78.trans r9
            have hp9 := r79.2 p _ hp6 pb
            have da9 := g6.dens r79 da6
            refine ⟨av1, hp9, by rw [← da6.length]; exact lz, acc1 ++ [e], av1 ++ [y], g9.putOwn pb pl (.of hp9 fun φ z => by cases z) (g1'.h0 hp), (r6.trans r79).putNew hp pb pl (.of hp9 fun φ z => by cases z), fun a o e n1 n2 => ?_, upd_same, ?_, pe⟩
            · rw [upd_ne n2]
              exact r79.2 a o (k6 a o e n1 n2) n1
            · rw [hid_put List.mem_cons_self]
              exact da9.snoc de
        · have e : j = es.length := by omega
          subst e
          exact .inl ⟨ws1, acc1, av1, g6, r6, hp6, da6, je acc1 hJ⟩
    · have e : i = ds.length := by omega
      subst e
      refine .inl ⟨ws, ?_⟩
      exact q _ H2 _ (r1.trans r2) (ie acc hI) (.lst (hid_of (g1'.fresh hp) hp2) (DenAll.sub hid_less _ _ da))
end
end DL

set_option maxHeartbeats 4000000
namespace DL
open PySem PySem.Spec PyProof.Rows L2 RZ RD RE
theorem putKD_mem : ∀ {ks : List Key} {ds : List D} {k : Key} {d : D} {q : Key}, q ∈ (putKD ks ds k d).1 → q = k ∨ q ∈ ks
  | [], ds, k, d, q, h => by
    unfold putKD at h
    exact .inl (List.mem_singleton.mp h)
  | k0 :: ks, [], k, d, q, h => by
    unfold putKD at h
    exact .inl (List.mem_singleton.mp h)
  | k0 :: ks, d0 :: ds, k, d, q, h => by
    unfold putKD at h
    by_cases e : k0 = k
    · rw [if_pos e] at h
      exact .inr h
    · rw [if_neg e] at h
      rcases List.mem_cons.mp h with h | h
      · exact .inr (by rw [h]; exact List.mem_cons_self)
      · rcases putKD_mem h with h | h
        · exact .inl h
        · exact .inr (List.mem_cons_of_mem _ h)
theorem putKD_nd : ∀ {ks : List Key} {ds : List D} {k : Key} {d : D}, ks.Nodup → (putKD ks ds k d).1.Nodup
  | [], ds, k, d, h => by unfold putKD; exact List.nodup_cons.mpr ⟨by simp, List.nodup_nil⟩
  | k0 :: ks, [], k, d, h => by unfold putKD; exact List.nodup_cons.mpr ⟨by simp, List.nodup_nil⟩
  | k0 :: ks, d0 :: ds, k, d, h => by
    unfold putKD
    by_cases e : k0 = k
    · rw [if_pos e]; exact h
    · rw [if_neg e]
      refine List.nodup_cons.mpr ⟨fun z => ?_, putKD_nd (List.nodup_cons.mp h).2⟩
      rcases putKD_mem z with z | z
      · exact e z
      · exact (List.nodup_cons.mp h).1 z
theorem putKD_len : ∀ {ks : List Key} {ds : List D} {k : Key} {d : D}, (putKD ks ds k d).1.length ≤ ks.length + 1
  | [], ds, k, d => by unfold putKD; simp
  | k0 :: ks, [], k, d => by unfold putKD; simp
  | k0 :: ks, d0 :: ds, k, d => by
    unfold putKD
    by_cases e : k0 = k
    · rw [if_pos e]; simp
    · rw [if_neg e]
      have := putKD_len (ks := ks) (ds := ds) (k := k) (d := d)
      simp only [List.length_cons]
      omega
theorem putKD_new : ∀ {ks : List Key} {ds : List D} {k : Key} {d : D}, ks.length = ds.length → k ∉ ks → putKD ks ds k d = (ks ++ [k], ds ++ [d])
  | [], [], k, d, _, _ => rfl
  | k0 :: ks, d0 :: ds, k, d, hl, h => by
    have ih := putKD_new (ks := ks) (ds := ds) (k := k) (d := d) (by simpa using hl) (fun z => h (List.mem_cons_of_mem _ z))
    unfold putKD
    rw [if_neg (fun e => h (by rw [e]; exact List.mem_cons_self)), ih]
    rfl
  | [], _ :: _, _, _, hl, _ => by simp at hl
  | _ :: _, [], _, _, hl, _ => by simp at hl
section
variable {K : PySem.W.Frag} {B : Bx} {M : List Addr} {H H1 : Hp} {Γ : Gam} {te ta tb tc tk tv : TE} {t : TT} {tr : TA} {wi wi1 : TI} {g g1 : TG} {P : D → Prop}
/-- {k: v for a in x if t}, by an invariant; later ones win -/
theorem ev_dc {tt : TT} {vs : List Nat} (hi : EvI K B wi Γ fun ds => ds.length < sizeLine ∧ ∃ I : Nat → List Key → List D → Prop, I 0 [] [] ∧
      (∀ i d ks es, ds[i]? = some d → I i ks es → ks.Nodup → EvG K B g vs (wipeG Γ vs) d fun Γ' => EvT K B tt Γ' fun k => if k = true then Ev K B tk Γ' fun y => ∃ kk, y = keyD kk ∧ Ev K B tv Γ' fun z => I (i + 1) (putKD ks es kk z).1 (putKD ks es kk z).2 else I (i + 1) ks es) ∧
      ∀ ks es, I ds.length ks es → ks.Nodup → ks.length ≤ ds.length → P (.dK false ks es)) : Ev K B (tDc wi g tt tk tv vs) Γ P := fun M σ H Q gd x q =>
  hi M σ H _ gd x fun J H1 ds r1 ⟨hz, I, i0, it, ie⟩ wk p hp => by
    have g1' := gd.r r1
    have x1 := x.r gd r1
    have pb := g1'.fresh_b hp
    have pl := g1'.fresh_l hp
    have w := wk (p :: M) (fun a ha => List.mem_cons_of_mem _ ha) (fun a ha => by
      rcases List.mem_cons.mp ha with e | ha
      · exact .inr (by rw [e]; exact hp)
      · exact .inl ha)
    refine ⟨fun i m H2 => m = ds.length - i ∧ i ≤ ds.length ∧ ∃ ks es av, Good K B (p :: M) H2 ∧ R K B H1 H2 ∧ H2 p = some (.dK (ks.zip av)) ∧ ks.length = av.length ∧ ks.Nodup ∧ ks.length ≤ i ∧ DenAll K (hid (p :: M) H2) es av ∧ I i ks es,
      ⟨ds.length, by simp, Nat.zero_le _, [], [], [], g1'.own hp, g1'.new hp, upd_same, rfl, List.nodup_nil, Nat.le_refl _, .nil, i0⟩, ?_⟩
    rintro i m H2 ⟨rfl, hil, ks, es, av, g2, r2, hp2, ln, nd, lk, da, hI⟩
    obtain ⟨wy, ws⟩ := w H2 g2 (r2.v g2.no)
    by_cases hlt : i < ds.length
    · have hd : ds[i]? = some ds[i] := List.getElem?_eq_getElem hlt
      obtain ⟨wg, wn⟩ := wy i _ hd
      refine .inr ⟨wg, fun H3 => ∃ ks es av, Good K B (p :: M) H3 ∧ R K B H1 H3 ∧ H3 p = some (.dK (ks.zip av)) ∧ ks.length = av.length ∧ ks.Nodup ∧ ks.length ≤ i + 1 ∧ DenAll K (hid (p :: M) H3) es av ∧ I (i + 1) ks es,
        fun H' h' => ⟨ds.length - (i + 1), by omega, rfl, hlt, h'⟩, fun v H3 hy => ?_⟩
      obtain ⟨r3, dv⟩ := wn v H3 hy
      have g3 := g2.r r3
      have x3 : EnvOk K (p :: M) H3 σ Γ := env_behind x1 hp (r2.trans r3) g1'.no
      refine it i _ ks es hd hI nd (p :: M) (L2.wipe σ vs) H3 v _ g3 (x3.wipe vs) dv fun σ' Γ' pg x4 hlen hout => ?_
      refine ⟨wipe_eq (by rw [hlen, L2.wipe_length]) hout, ?_⟩
      refine pg (p :: M) σ' H3 _ g3 x4 fun k H4 r4 pk => ?_
      have g4 := g3.r r4
      cases k with
      | false =>
        rw [if_neg Bool.false_ne_true] at pk ⊢
        exact ⟨ks, es, av, g4, r2.trans (r3.trans r4), (r3.trans r4).2 p _ hp2 pb, ln, nd, by omega, g2.dens (r3.trans r4) da, pk⟩
      | true =>
        rw [if_pos rfl] at pk ⊢
        refine pk (p :: M) σ' H4 _ g4 (x4.r g3 r4) fun y H5 e r5 ⟨kk, ek, pe⟩ de => ?_
        subst ek
        have ey := keyD_den de
        subst ey
        have g5 := g4.r r5
        refine pe (p :: M) σ' H5 _ g5 ((x4.r g3 r4).r g4 r5) fun z H6 f r6 pf df => ?_
        have g6 := g5.r r6
        have r26 := r3.trans (r4.trans (r5.trans r6))
        have hp6 := r26.2 p _ hp2 pb
        have da6 := g2.dens r26 da
        obtain ⟨av', e1, e2, e3⟩ := putKD_ok (k := kk) nd ln da6 df
        refine ⟨ks.zip av, kk, rfl, hp6, ?_, (putKD ks es kk f).1, (putKD ks es kk f).2, av', g6.putOwn pb pl (.of hp6 fun φ z => by cases z) (g1'.h0 hp), (r2.trans r26).putNew hp pb pl (.of hp6 fun φ z => by cases z), ?_, e2, putKD_nd nd, ?_, ?_, pf⟩
        · rw [List.length_zip]
          omega
        · rw [upd_same, e1]
        · have := putKD_len (ks := ks) (ds := es) (k := kk) (d := f)
          omega
        · rw [hid_put List.mem_cons_self]
          exact e3
    · have e : i = ds.length := by omega
      subst e
      refine .inl ⟨ws, ?_⟩
      exact q _ H2 _ (r1.trans r2) (ie ks es hI nd lk) (.dK (hid_of (g1'.fresh hp) hp2) ln (DenAll.sub hid_less _ _ da))
end
end DL

set_option maxHeartbeats 4000000
/-! sorted of tuples of ints and texts, all of one shape: any number of them -/
namespace RE
open PySem PySem.Spec PyProof.Rows L2 RZ
/-! ### the order -/
def ltK : Key → Key → Bool
  | .inl a, .inl b => decide (a < b)
  | .inr a, .inr b => decide (a.cps.toList < b.cps.toList)
  | .inl _, .inr _ => true
  | .inr _, .inl _ => false
def ltL : List Key → List Key → Bool
  | [], [] => false
  | [], _ :: _ => true
  | _ :: _, [] => false
  | a :: as, b :: bs => if a = b then ltL as bs else ltK a b
theorem str_of_cps {a b : Str} (h : a.cps.toList = b.cps.toList) : a = b := by
  obtain ⟨⟨x⟩⟩ := a
  obtain ⟨⟨y⟩⟩ := b
  have h' : x = y := h
  rw [h']
theorem ltK_irr (a : Key) : ltK a a = false := by
  cases a with
  | inl a => exact decide_eq_false (Int.lt_irrefl a)
  | inr a => exact decide_eq_false (List.lt_irrefl _)
theorem ltK_tri {a b : Key} (h1 : ltK a b = false) (h2 : ltK b a = false) : a = b := by
  cases a with
  | inl a =>
    cases b with
    | inl b =>
      have x := of_decide_eq_false h1
      have y := of_decide_eq_false h2
      rw [show a = b by omega]
    | inr b => cases h1
  | inr a =>
    cases b with
    | inl b => cases h2
    | inr b =>
      have x : ¬ a.cps.toList < b.cps.toList := of_decide_eq_false h1
      have y : ¬ b.cps.toList < a.cps.toList := of_decide_eq_false h2
      rw [str_of_cps (List.le_antisymm (List.not_lt.mp y) (List.not_lt.mp x))]
theorem ltK_trans {a b c : Key} (h1 : ltK a b = true) (h2 : ltK b c = true) : ltK a c = true := by
  cases a <;> cases b <;> cases c <;> first
    | rfl
    | (cases h1; done)
    | (cases h2; done)
    | skip
  · exact decide_eq_true (Int.lt_trans (of_decide_eq_true h1) (of_decide_eq_true h2))
  · exact decide_eq_true (List.lt_trans (of_decide_eq_true h1) (of_decide_eq_true h2))
theorem ltK_asym {a b : Key} (h : ltK a b = true) : ltK b a = false := by
  cases e : ltK b a with
  | false => rfl
  | true =>
    have := ltK_trans h e
    rw [ltK_irr] at this
    cases this
theorem ltL_irr : ∀ a : List Key, ltL a a = false
  | [] => rfl
  | a :: as => by
    unfold ltL
    rw [if_pos rfl]
    exact ltL_irr as
theorem ltL_tri : ∀ {a b : List Key}, ltL a b = false → ltL b a = false → a = b
  | [], [], _, _ => rfl
  | [], _ :: _, h, _ => by cases h
  | _ :: _, [], _, h => by cases h
  | a :: as, b :: bs, h1, h2 => by
    unfold ltL at h1 h2
    by_cases e : a = b
    · subst e
      rw [if_pos rfl] at h1 h2
      rw [ltL_tri h1 h2]
    · rw [if_neg e] at h1
      rw [if_neg (Ne.symm e)] at h2
      exact absurd (ltK_tri h1 h2) e
theorem ltL_trans : ∀ {a b c : List Key}, ltL a b = true → ltL b c = true → ltL a c = true
  | [], [], _, h, _ => by cases h
  | [], _ :: _, [], _, h => by cases h
  | [], _ :: _, _ :: _, _, _ => rfl
  | _ :: _, [], _, h, _ => by cases h
  | _ :: _, _ :: _, [], _, h => by cases h
  | a :: as, b :: bs, c :: cs, h1, h2 => by
    unfold ltL at h1 h2 ⊢
    by_cases e1 : a = b
    · subst e1
      rw [if_pos rfl] at h1
      by_cases e2 : a = c
      · subst e2
        rw [if_pos rfl] at h2 ⊢
        exact ltL_trans h1 h2
      · rw [if_neg e2] at h2 ⊢
        exact h2
    · rw [if_neg e1] at h1
      by_cases e2 : b = c
      · subst e2
        rw [if_neg e1]
        exact h1
      · rw [if_neg e2] at h2
        have h3 := ltK_trans h1 h2
        by_cases e3 : a = c
        · subst e3
          rw [ltK_irr] at h3
          cases h3
        · rw [if_neg e3]
          exact h3
theorem ltL_asym {a b : List Key} (h : ltL a b = true) : ltL b a = false := by
  cases e : ltL b a with
  | false => rfl
  | true =>
    have := ltL_trans h e
    rw [ltL_irr] at this
    cases this
theorem ltL_ntrans {a b c : List Key} (h1 : ltL b a = false) (h2 : ltL c b = false) : ltL c a = false := by
  cases e : ltL c a with
  | false => rfl
  | true =>
    cases e2 : ltL a b with
    | true =>
      have := ltL_trans e e2
      rw [h2] at this
      cases this
    | false =>
      have z := ltL_tri h1 e2
      subst z
      rw [h2] at e
      cases e
theorem swo_L {α : Type} (k : α → List Key) : SrtO.Swo fun x y => ltL (k x) (k y) :=
  ⟨fun x y h => ltL_asym h, fun x y z h1 h2 => ltL_ntrans h1 h2⟩
/-- an int, or a text -/
def kindK : Key → Bool
  | .inl _ => true
  | .inr _ => false
/-- all of one shape -/
def shapeK (k : List Key) : List Bool := k.map kindK
theorem pget_back {xs : List V} {us : List Value} (h : Vals xs us) : ∀ {i : Nat} {u : Value}, us[i]? = some u → ∃ x, xs[i]? = some x ∧ RelV x u := by
  induction h with
  | nil => intro i u e; simp at e
  | cons r t ih =>
    intro i u e
    cases i with
    | zero => cases e; exact ⟨_, rfl, r⟩
    | succ i => exact ih (i := i) e
/-! ### the machine -/
/-- v is a tuple of k's values at h -/
def IsTK (h : Heap) (v : Value) (k : List Key) : Prop := ∃ a o us n, v = .ref a ∧ h.get? a = some o ∧ o.cls = .type "tuple" ∧ o.data = .seq us n ∧ Vals (k.map kV) us.toList
theorem IsTK.keeps {h h' : Heap} {v : Value} {k : List Key} (p : IsTK h v k) (e : ∀ b o, h.get? b = some o → o.cls = .type "tuple" → h'.get? b = some o) : IsTK h' v k := by
  obtain ⟨a, o, us, n, q, ho, hc, hd, hv⟩ := p
  exact ⟨a, o, us, n, q, e _ _ ho hc, hc, hd, hv⟩
section
variable {prog : Program} {w : World} {A : Around} {s : Shared}
theorem lt_key {c : Bool} {x y : Key} {u v : Value} {Q : Bool → Shared → Prop} {E : Value → Shared → Prop} (rx : RelV (kV x) u) (ry : RelV (kV y) v) (sh : kindK x = kindK y) (h : Q (ltK x y) s) :
    wpAny (model prog w) A (oneLt' c u v) Q E s := by
  cases x with
  | inl x =>
    cases y with
    | inl y =>
      obtain ⟨t1, rfl⟩ := rx
      obtain ⟨t2, rfl⟩ := ry
      exact TS.oneLt_ints c h
    | inr y => cases sh
  | inr x =>
    cases y with
    | inl y => cases sh
    | inr y =>
      obtain ⟨t1, rfl⟩ := rx
      obtain ⟨t2, rfl⟩ := ry
      cases c with
      | true => exact oneLt_str h
      | false => exact PySem.W.kat_one _ _ (lt_str h)
theorem eq_key {x y : Key} {u v : Value} (rx : RelV (kV x) u) (ry : RelV (kV y) v) (sh : kindK x = kindK y) {Q : Bool → Shared → Prop} {E : Value → Shared → Prop} (h : Q (decide (x = y)) s) :
    wpAny (model prog w) A (eqBool u v) Q E s := by
  cases x with
  | inl x =>
    cases y with
    | inl y =>
      obtain ⟨t1, rfl⟩ := rx
      obtain ⟨t2, rfl⟩ := ry
      refine SeqAt.EqAt.int_int x t1 y t2 prog w _ _ ?_
      have e : (x == y) = decide ((Sum.inl x : Key) = Sum.inl y) := by rw [Bool.eq_iff_iff]; simp
      rw [e]; exact h
    | inr y => cases sh
  | inr x =>
    cases y with
    | inl y => cases sh
    | inr y =>
      obtain ⟨t1, rfl⟩ := rx
      obtain ⟨t2, rfl⟩ := ry
      refine SeqAt.EqAt.str_str x t1 y t2 prog w _ _ ?_
      have e : (x == y) = decide ((Sum.inr x : Key) = Sum.inr y) := by rw [Bool.eq_iff_iff]; simp
      rw [e]; exact h
theorem lex_keys {b fin : Bool} {Q : Bool → Shared → Prop} : ∀ {k m : List Key} {us ws : List Value} (i : Nat), Vals (k.map kV) us → Vals (m.map kV) ws → shapeK k = shapeK m → (k = m → Q fin s) → (k ≠ m → Q (ltL k m) s) → PySem.W.KatLex prog w A b fin Q (us.zip ws) i s
  | [], [], _, _, i, h1, h2, _, he, _ => by
    cases h1; cases h2
    exact PySem.W.kat_nil (he rfl)
  | [], _ :: _, _, _, _, _, _, sh, _, _ => by cases sh
  | _ :: _, [], _, _, _, _, _, sh, _, _ => by cases sh
  | x :: k, y :: m, _, _, i, h1, h2, sh, he, hn => by
    cases h1 with
    | cons r1 t1 =>
      cases h2 with
      | cons r2 t2 =>
        have sh2 := List.cons.inj sh
        refine PySem.W.kat_cons (eq_key r1 r2 sh2.1 ?_)
        refine PySem.W.kat_go (fun e => ?_) (fun e => ?_)
        · have e' : x = y := of_decide_eq_true e
          subst e'
          refine PySem.W.kat_yes (lex_keys (i + 1) t1 t2 sh2.2 (fun z => he (by rw [z])) fun z => ?_)
          have := hn (fun q => z (List.cons.inj q).2)
          unfold ltL at this
          rw [if_pos rfl] at this
          exact this
        · have e' : x ≠ y := of_decide_eq_false e
          refine PySem.W.kat_no (lt_key r1 r2 sh2.1 ?_)
          have := hn (fun q => e' (List.cons.inj q).1)
          unfold ltL at this
          rw [if_neg e'] at this
          exact this
theorem tk_cmp {vs : List Value} {k : Value → List Key} {sh : List Bool} (hp : ∀ v ∈ vs, IsTK s.heap v (k v) ∧ shapeK (k v) = sh) (c : Bool) : SrtO.Cmp prog w A s (tuples' c) (fun p => p.1 ∈ vs) (SrtO.lt2 fun v u => ltL (k v) (k u)) := by
  intro p q hm hm'
  obtain ⟨⟨a, o, us, n, e, ho, hc, hd, hv⟩, s1⟩ := hp _ hm
  obtain ⟨⟨a', o', ws, n', e', ho', hc', hd', hv'⟩, s2⟩ := hp _ hm'
  show wpAny (model prog w) A (keyLt' (tuples' c) p.1 q.1) (fun r s' => s' = s ∧ r = ltL (k p.1) (k q.1)) (fun _ _ => False) s
  generalize k p.1 = kp at *
  generalize k q.1 = kq at *
  rw [e, e']
  refine PySem.W.kat_lt ho hd ho' hd' (lex_keys 0 hv hv' (s1.trans s2.symm) (fun z => ?_) fun _ => ⟨rfl, rfl⟩)
  subst z
  refine ⟨rfl, ?_⟩
  have l : us.size = ws.size := by
    rw [← Array.length_toList, ← Array.length_toList, ← hv.length, ← hv'.length]
  rw [ltL_irr]
  exact decide_eq_false (by omega)
theorem first_tk {h : Heap} {x : Key} {ks : List Key} {v : Value} (t : IsTK h v (x :: ks)) : ∃ a o us n f, v = .ref a ∧ h.get? a = some o ∧ o.cls = .type "tuple" ∧ o.data = .seq us n ∧ us[0]? = some f ∧ RelV (kV x) f := by
  obtain ⟨a, o, us, n, e, ho, hc, hd, hv⟩ := t
  obtain ⟨l⟩ := us
  cases hv with
  | cons r t => exact ⟨a, o, _, n, _, e, ho, hc, hd, rfl, r⟩
theorem firsts_tk {h : Heap} {k : Value → List Key} {b : Bool} {sh : List Bool} : ∀ vs : List Value, (∀ v ∈ vs, IsTK h v (k v) ∧ shapeK (k v) = b :: sh) → ∃ fs, PySem.W.KatTups h vs fs ∧ fs.length = vs.length ∧ ∀ f ∈ fs, ∃ x : Key, RelV (kV x) f ∧ kindK x = b
  | [], _ => ⟨[], PySem.W.KatTups.nil, rfl, fun f hf => by cases hf⟩
  | v :: vs, hp => by
    obtain ⟨fs, h1, h2, h3⟩ := firsts_tk vs fun u hu => hp u (List.mem_cons_of_mem _ hu)
    obtain ⟨t, s1⟩ := hp v List.mem_cons_self
    cases e : k v with
    | nil => rw [e] at s1; cases s1
    | cons x ks =>
      rw [e] at t s1
      obtain ⟨a, o, us, n, f, ev, ho, hc, hd, hf, r⟩ := first_tk t
      subst ev
      refine ⟨f :: fs, PySem.W.KatTups.cons ho hc hd hf h1, by rw [List.length_cons, List.length_cons, h2], fun g hg => ?_⟩
      rcases List.mem_cons.mp hg with z | z
      · exact ⟨x, by rw [z]; exact r, (List.cons.inj s1).1⟩
      · exact h3 g z
theorem tk_sortable {a : Addr} {vs : List Value} {k : Value → List Key} {b : Bool} {sh : List Bool} (h0 : 0 < vs.length) (hp : ∀ v ∈ vs, IsTK s.heap v (k v) ∧ shapeK (k v) = b :: sh) (ha : ∀ o, s.heap.get? a = some o → o.cls ≠ .type "tuple") :
    SrtO.SortableO prog w A s a vs fun v u => ltL (k v) (k u) := by
  intro h' keep
  have hp' : ∀ v ∈ vs, IsTK h' v (k v) ∧ shapeK (k v) = b :: sh := fun v hm => ⟨(hp v hm).1.keeps fun c o e q => keep c o (fun z => by subst z; exact ha o e q) e, (hp v hm).2⟩
  obtain ⟨fs, h1, h2, h3⟩ := firsts_tk vs hp'
  refine ⟨tuples' true, fun Q E hq => ?_, tk_cmp hp' true⟩
  cases b with
  | true =>
    refine PySem.W.kat_kind (T := .type "int") h1 (by omega) (fun f hm => ?_) (by rfl) ?_
    · obtain ⟨x, r, e⟩ := h3 f hm
      cases x with
      | inl x => obtain ⟨t, rfl⟩ := r; exact PySem.W.Looks.now
      | inr x => cases e
    · have e : (Value.type "int" != Value.type "tuple") = true := by first | decide +kernel | rfl
      rw [e]; exact hq
  | false =>
    refine PySem.W.kat_kind (T := .type "str") h1 (by omega) (fun f hm => ?_) (by rfl) ?_
    · obtain ⟨x, r, e⟩ := h3 f hm
      cases x with
      | inl x => cases e
      | inr x => obtain ⟨t, rfl⟩ := r; exact PySem.W.Looks.now
    · have e : (Value.type "str" != Value.type "tuple") = true := by first | decide +kernel | rfl
      rw [e]; exact hq
end
theorem rel_key {x y : Key} {u : Value} (h1 : RelV (kV x) u) (h2 : RelV (kV y) u) : x = y := by
  cases x with
  | inl x =>
    obtain ⟨t, rfl⟩ := h1
    cases y with
    | inl y =>
      obtain ⟨t2, e⟩ := h2
      cases e
      rfl
    | inr y =>
      obtain ⟨t2, e⟩ := h2
      cases e
  | inr x =>
    obtain ⟨t, rfl⟩ := h1
    cases y with
    | inl y =>
      obtain ⟨t2, e⟩ := h2
      cases e
    | inr y =>
      obtain ⟨t2, e⟩ := h2
      cases e
      rfl
theorem vals_key : ∀ {k m : List Key} {us : List Value}, Vals (k.map kV) us → Vals (m.map kV) us → k = m
  | [], [], _, _, _ => rfl
  | [], _ :: _, _, h1, h2 => by cases h1; cases h2
  | _ :: _, [], _, h1, h2 => by cases h2; cases h1
  | x :: k, y :: m, _, h1, h2 => by
    cases h1 with
    | cons r1 t1 =>
      cases h2 with
      | cons r2 t2 => rw [rel_key r1 r2, vals_key t1 t2]
theorem IsTK.uniq {h : Heap} {v : Value} {k m : List Key} (a : IsTK h v k) (b : IsTK h v m) : k = m := by
  obtain ⟨p, o, us, n, e, ho, hc, hd, hv⟩ := a
  obtain ⟨p', o', us', n', e', ho', hc', hd', hv'⟩ := b
  rw [e] at e'
  cases e'
  rw [ho] at ho'
  cases ho'
  rw [hd] at hd'
  cases hd'
  exact vals_key hv hv'
open Classical in
noncomputable def keyOf (h : Heap) (v : Value) : List Key := if e : ∃ k, IsTK h v k then e.choose else []
theorem keyOf_eq {h : Heap} {v : Value} {k : List Key} (a : IsTK h v k) : keyOf h v = k := by
  have e : ∃ k, IsTK h v k := ⟨k, a⟩
  unfold keyOf
  rw [dif_pos e]
  exact e.choose_spec.uniq a
/-- sorted(xs), xs a list of tuples of ints and texts, all of one shape -/
def rSortTK (K : PySem.W.Frag) : List V → Hp → VK → Prop := fun vs H Q => ∃ (a : Addr) (xs : List V) (ks : List (List Key)) (b : Bool) (sh : List Bool), vs = [V.ref a] ∧ SqL K H a xs ∧ xs.length = ks.length ∧ (∀ k ∈ ks, shapeK k = b :: sh) ∧
  (∀ x k, (x, k) ∈ xs.zip ks → ∃ t, x = V.ref t ∧ SqT K H t (k.map kV)) ∧
  ∀ (ys : List (V × List Key)) p, ys.Perm (xs.zip ks) → ys.Pairwise (fun x y => ltL y.2 x.2 = false) → H p = none → Q (.ref p) (upd H p (.lst (ys.map (·.1))))
section
variable {X : Cx}
theorem zip_refs : ∀ {xs : List V} {ks : List (List Key)} {us : List Value} {f : Value → List Key}, Vals xs us → xs.length = ks.length → (∀ x k u, (x, k) ∈ xs.zip ks → RelV x u → u ∈ us → (∃ a, u = Value.ref a) ∧ x = backV u ∧ f u = k) → xs.zip ks = us.map fun u => (backV u, f u)
  | [], [], _, _, .nil, _, _ => rfl
  | x :: xs, k :: ks, u :: _, f, .cons r t, hl, h => by
    obtain ⟨h1, h2, h3⟩ := h x k u List.mem_cons_self r List.mem_cons_self
    rw [List.zip_cons_cons, List.map_cons, h2, h3, zip_refs t (by simpa using hl) fun x' k' u' m r' mu => h x' k' u' (List.mem_cons_of_mem _ m) r' (List.mem_cons_of_mem _ mu)]
theorem cr_sortTK : CallR X (.builtin "sorted") (rSortTK X.K) := by
  intro pins s σ H vs us Q I r h
  obtain ⟨a, xs, ks, b, sh, rfl, hs, hlen, hsh, hx, q⟩ := h
  obtain ⟨its, rv, hl, hz⟩ := I.list hs
  obtain ⟨u, rfl, ru⟩ := vals1 r
  obtain rfl : u = Value.ref a := ru
  have one : ∀ x k u, (x, k) ∈ xs.zip ks → RelV x u → (∃ a, u = Value.ref a) ∧ x = backV u ∧ IsTK s.heap u k := fun x k u m r => by
    obtain ⟨t, rfl, ht⟩ := hx x k m
    obtain rfl : u = Value.ref t := r
    obtain ⟨its2, r2, ⟨⟨cls, dd, data, sl⟩, ho, hc, n, hd⟩, _⟩ := I.tuple ht
    simp only at hc hd
    subst hc hd
    refine ⟨⟨t, rfl⟩, rfl, t, _, its2.toArray, n, rfl, ho, rfl, rfl, ?_⟩
    simpa using r2
  have ez := zip_refs (f := keyOf s.heap) rv hlen fun x k u m r _ => let ⟨z1, z2, z3⟩ := one x k u m r; ⟨z1, z2, keyOf_eq z3⟩
  have each : ∀ v ∈ its, (∃ a, v = Value.ref a) ∧ IsTK s.heap v (keyOf s.heap v) ∧ shapeK (keyOf s.heap v) = b :: sh := fun v hv => by
    obtain ⟨i, hi⟩ := List.getElem?_of_mem hv
    obtain ⟨x, hxi, rx⟩ := pget_back rv hi
    have hil : i < xs.length := (List.getElem?_eq_some_iff.mp hxi).1
    have hk : ks[i]? = some ks[i] := List.getElem?_eq_getElem (by omega)
    have hm : (x, ks[i]'(by omega)) ∈ xs.zip ks := by
      refine List.mem_of_getElem? (i := i) ?_
      rw [List.getElem?_zip_eq_some]
      exact ⟨hxi, hk⟩
    obtain ⟨z1, z2, z3⟩ := one x _ v hm rx
    have e := keyOf_eq z3
    rw [e]
    exact ⟨z1, z3, hsh _ (List.mem_of_getElem? hk)⟩
  refine SrtO.sorted_ord (swo_L (keyOf s.heap)) hl.isList (by rw [← rv.length]; exact hz) (fun h2 h₁ c ha kk => ?_) fun out h1 h2 => ?_
  · refine tk_sortable (s := { s with heap := h₁ }) (by omega) (fun v hv => ⟨(each v hv).2.1.keeps fun d o e _ => (kk d o e).2, (each v hv).2.2⟩) fun o e => ?_
    have e' : some o = some (PyProof.Rows.seqObj "list" its.toArray 0) := e.symm.trans ha
    cases e'
    intro z
    exact absurd (Value.type.inj z) (by decide)
  · have h3 : ∀ u ∈ out, ∃ a, u = Value.ref a := fun u hu => (each u (h2.perm.mem_iff.mp hu)).1
    have pm : (out.map fun u => (backV u, keyOf s.heap u)).Perm (xs.zip ks) := by rw [ez]; exact h2.perm.map _
    obtain ⟨n, hn⟩ := PyProof.Rows.sortedAll_at s.heap its out.toArray
    have em : (out.map fun u => (backV u, keyOf s.heap u)).map (·.1) = out.map backV := by rw [List.map_map]; rfl
    have qq := q _ (s.heap.objs.size + 1) pm (List.pairwise_map.mpr h1) (I.hok.fresh (Nat.le_succ _))
    rw [em] at qq
    refine ⟨.ref (s.heap.objs.size + 1), upd H (s.heap.objs.size + 1) (.lst (out.map backV)), I.laid (t' := s.toks) (fun d o e => PyProof.Rows.sortedAll_old e) (Nat.le_succ _) ⟨?_, out, n, vals_back h3, hn⟩, rfl, qq⟩
    have := pm.length_eq
    rw [List.length_map, List.length_zip] at this
    rw [List.length_map]
    omega
end
end RE

set_option maxHeartbeats 4000000
/-! over data: sorted, new dicts (handed back, locked), dicts walked by their keys -/
namespace DL
open PySem PySem.Spec PyProof.Rows L2 RZ RD RE
def tupK (k : List Key) : D := .tup (k.map keyD)
section
variable {K : PySem.W.Frag} {B : Bx} {M : List Addr} {H H1 : Hp} {Γ : Gam} {te ta tb tc tk tv td : TE} {t : TT} {tr : TA} {wi wi1 : TI} {g g1 : TG} {P : D → Prop}
theorem dens_key : ∀ {k : List Key} {vs : List V}, DenAll K H (k.map keyD) vs → vs = k.map kV
  | [], _, h => by cases h; rfl
  | x :: k, _, h => by
    cases h with
    | cons h1 h2 => rw [keyD_den h1, dens_key h2]; rfl
theorem den_tupK {M : List Addr} {k : List Key} {v : V} (h : Den K (hid M H) (tupK k) v) : ∃ t, v = .ref t ∧ SqT K H t (k.map kV) := by
  cases h with
  | tup h1 h2 =>
    rw [dens_key h2] at h1
    exact ⟨_, rfl, SqT.sub hid_sub h1⟩
theorem dens_zip {M : List Addr} : ∀ {kss : List (List Key)} {vs : List V}, DenAll K (hid M H) (kss.map tupK) vs → ∀ x k, (x, k) ∈ vs.zip kss → Den K (hid M H) (tupK k) x
  | [], _, h, x, k, m => by cases h; simp at m
  | k0 :: kss, _, h, x, k, m => by
    cases h with
    | cons h1 h2 =>
      rw [List.zip_cons_cons] at m
      rcases List.mem_cons.mp m with e | m
      · cases e; exact h1
      · exact dens_zip h2 x k m
theorem dens_of {M : List Addr} : ∀ {prs : List (V × List Key)}, (∀ x k, (x, k) ∈ prs → Den K (hid M H) (tupK k) x) → DenAll K (hid M H) ((prs.map (·.2)).map tupK) (prs.map (·.1))
  | [], _ => .nil
  | p :: prs, h => .cons (h p.1 p.2 List.mem_cons_self) (dens_of fun x k m => h x k (List.mem_cons_of_mem _ m))
/-- sorted of a list of tuples of ints and texts -/
theorem ev_sortT (h : EvA K B tr Γ fun ds => ∃ kss : List (List Key), ds = [.lst (kss.map tupK)] ∧ (∃ b sh, ∀ k, k ∈ kss → shapeK k = b :: sh) ∧
    ∀ out : List (List Key), out.Perm kss → out.Pairwise (fun x y => ltL y x = false) → P (.lst (out.map tupK))) : Ev K B (tCB (rSortTK K) tr) Γ P := fun M σ H Q g x q =>
  h M σ H _ g x fun vs H1 ds r ⟨kss, e, ⟨b, sh, hsh⟩, p⟩ dn => by
    subst e
    have g1 := g.r r
    cases dn with
    | cons d1 dn =>
      cases dn
      cases d1 with
      | @lst a xs _ ha hd =>
        have hl := hd.length
        rw [List.length_map] at hl
        refine ⟨a, xs, kss, b, sh, rfl, SqL.of (hid_get ha).2, hl.symm, hsh, fun y k m => den_tupK (dens_zip hd y k m), fun ys p' pm pw hp => ?_⟩
        have r2 := g1.new (o := .lst (ys.map (·.1))) hp
        have pk : (ys.map (·.2)).Perm kss := by
          have := pm.map (·.2)
          rwa [List.map_snd_zip (by omega)] at this
        refine q _ _ _ (r.trans r2) (p _ pk (List.pairwise_map.mpr pw)) (.lst (hid_of (g1.fresh hp) upd_same) (g1.dens r2 (dens_of fun y k m => dens_zip hd y k (pm.mem_iff.mp m))))
/-! ### new dicts -/
/-- e gives a new dict -/
def EvN (K : PySem.W.Frag) (B : Bx) (te : TE) (Γ : Gam) (P : List Key → List D → Prop) : Prop := ∀ (M : List Addr) (σ : L2.St) (H : Hp) (Q : VK), Good K B M H → EnvOk K M H σ Γ →
  (∀ p H' ks vs ds, H p = none → R K B H H' → H' p = some (.dK (ks.zip vs)) → ks.length = vs.length → ks.Nodup → DenAll K (hid (p :: M) H') ds vs → P ks ds → Q (.ref p) H') → te σ H Q
theorem EvN.mono {P P' : List Key → List D → Prop} (h : EvN K B te Γ P) (e : ∀ ks ds, P ks ds → P' ks ds) : EvN K B te Γ P' := fun M σ H Q g x q => h M σ H Q g x fun p H' ks vs ds a1 a2 a3 a4 a5 a6 pk => q p H' ks vs ds a1 a2 a3 a4 a5 a6 (e ks ds pk)
theorem ev_ofN (h : EvN K B te Γ fun ks ds => P (.dK false ks ds)) : Ev K B te Γ P := fun M σ H Q g x q => h M σ H Q g x fun p H' ks vs ds hp r e ln nd dn pk =>
  q _ H' _ r pk (.dK (hid_of (g.fresh hp) e) ln (DenAll.sub hid_less _ _ dn))
/-- from here on nobody changes it -/
theorem ev_lockN (h : EvN K B te Γ fun ks ds => ks.Nodup → P (.dK true ks ds)) : Ev K B (RD.tLock te) Γ P := fun M σ H Q g x q => h M σ H _ g x fun p H' ks vs ds hp r e ln nd dn pk => by
  refine ⟨p, ks.zip vs, rfl, e, fun o => ?_⟩
  have pb := g.fresh_b hp
  have r2 : R K B H (upd H' p (.frz o (.dK (ks.zip vs)))) := r.putNew hp pb (g.fresh_l hp) (.of e fun φ z => by cases z)
  refine q _ _ _ r2 (pk nd) (.dKz (hid_of (g.fresh hp) upd_same) ln (DenAll.sub (fun a u ha => ?_) _ _ dn))
  obtain ⟨n, qa⟩ := hid_get ha
  exact hid_of (fun z => n (List.mem_cons_of_mem _ z)) (by rw [upd_ne (fun z => n (by rw [z]; exact List.mem_cons_self))]; exact qa)
theorem en_new {P : List Key → List D → Prop} (p : P [] []) : EvN K B tDNewK Γ P := fun M σ H Q g x q => fun a ha => q a _ [] [] [] ha (g.new ha) upd_same rfl List.nodup_nil .nil p
/-- {k: v for a in x if t}, by an invariant; later ones win -/
theorem en_dc {tt : TT} {vs : List Nat} {P : List Key → List D → Prop} (hi : EvI K B wi Γ fun ds => ds.length < sizeLine ∧ ∃ I : Nat → List Key → List D → Prop, I 0 [] [] ∧
      (∀ i d ks es, ds[i]? = some d → I i ks es → ks.Nodup → EvG K B g vs (wipeG Γ vs) d fun Γ' => EvT K B tt Γ' fun k => if k = true then Ev K B tk Γ' fun y => ∃ kk, y = keyD kk ∧ Ev K B tv Γ' fun z => I (i + 1) (putKD ks es kk z).1 (putKD ks es kk z).2 else I (i + 1) ks es) ∧
      ∀ ks es, I ds.length ks es → ks.Nodup → ks.length ≤ ds.length → P ks es) : EvN K B (tDc wi g tt tk tv vs) Γ P := fun M σ H Q gd x q =>
  hi M σ H _ gd x fun J H1 ds r1 ⟨hz, I, i0, it, ie⟩ wk p hp => by
    have g1' := gd.r r1
    have x1 := x.r gd r1
    have pb := g1'.fresh_b hp
    have pl := g1'.fresh_l hp
    have w := wk (p :: M) (fun a ha => List.mem_cons_of_mem _ ha) (fun a ha => by
      rcases List.mem_cons.mp ha with e | ha
      · exact .inr (by rw [e]; exact hp)
      · exact .inl ha)
    refine ⟨fun i m H2 => m = ds.length - i ∧ i ≤ ds.length ∧ ∃ ks es av, Good K B (p :: M) H2 ∧ R K B H1 H2 ∧ H2 p = some (.dK (ks.zip av)) ∧ ks.length = av.length ∧ ks.Nodup ∧ ks.length ≤ i ∧ DenAll K (hid (p :: M) H2) es av ∧ I i ks es,
      ⟨ds.length, by simp, Nat.zero_le _, [], [], [], g1'.own hp, g1'.new hp, upd_same, rfl, List.nodup_nil, Nat.le_refl _, .nil, i0⟩, ?_⟩
    rintro i m H2 ⟨rfl, hil, ks, es, av, g2, r2, hp2, ln, nd, lk, da, hI⟩
    obtain ⟨wy, ws⟩ := w H2 g2 (r2.v g2.no)
    by_cases hlt : i < ds.length
    · have hd : ds[i]? = some ds[i] := List.getElem?_eq_getElem hlt
      obtain ⟨wg, wn⟩ := wy i _ hd
      refine .inr ⟨wg, fun H3 => ∃ ks es av, Good K B (p :: M) H3 ∧ R K B H1 H3 ∧ H3 p = some (.dK (ks.zip av)) ∧ ks.length = av.length ∧ ks.Nodup ∧ ks.length ≤ i + 1 ∧ DenAll K (hid (p :: M) H3) es av ∧ I (i + 1) ks es,
        fun H' h' => ⟨ds.length - (i + 1), by omega, rfl, hlt, h'⟩, fun v H3 hy => ?_⟩
      obtain ⟨r3, dv⟩ := wn v H3 hy
      have g3 := g2.r r3
      have x3 : EnvOk K (p :: M) H3 σ Γ := env_behind x1 hp (r2.trans r3) g1'.no
      refine it i _ ks es hd hI nd (p :: M) (L2.wipe σ vs) H3 v _ g3 (x3.wipe vs) dv fun σ' Γ' pg x4 hlen hout => ?_
      refine ⟨wipe_eq (by rw [hlen, L2.wipe_length]) hout, ?_⟩
      refine pg (p :: M) σ' H3 _ g3 x4 fun k H4 r4 pk => ?_
      have g4 := g3.r r4
      cases k with
      | false =>
        rw [if_neg Bool.false_ne_true] at pk ⊢
        exact ⟨ks, es, av, g4, r2.trans (r3.trans r4), (r3.trans r4).2 p _ hp2 pb, ln, nd, by omega, g2.dens (r3.trans r4) da, pk⟩
      | true =>
        rw [if_pos rfl] at pk ⊢
        refine pk (p :: M) σ' H4 _ g4 (x4.r g3 r4) fun y H5 e r5 ⟨kk, ek, pe⟩ de => ?_
        subst ek
        have ey := keyD_den de
        subst ey
        have g5 := g4.r r5
        refine pe (p :: M) σ' H5 _ g5 ((x4.r g3 r4).r g4 r5) fun z H6 f r6 pf df => ?_
        have g6 := g5.r r6
        have r26 := r3.trans (r4.trans (r5.trans r6))
        have hp6 := r26.2 p _ hp2 pb
        have da6 := g2.dens r26 da
        obtain ⟨av', e1, e2, e3⟩ := putKD_ok (k := kk) nd ln da6 df
        refine ⟨ks.zip av, kk, rfl, hp6, ?_, (putKD ks es kk f).1, (putKD ks es kk f).2, av', g6.putOwn pb pl (.of hp6 fun φ z => by cases z) (g1'.h0 hp), (r2.trans r26).putNew hp pb pl (.of hp6 fun φ z => by cases z), ?_, e2, putKD_nd nd, ?_, ?_, pf⟩
        · rw [List.length_zip]
          omega
        · rw [upd_same, e1]
        · have := putKD_len (ks := ks) (ds := es) (k := kk) (d := f)
          omega
        · rw [hid_put List.mem_cons_self]
          exact e3
    · have e : i = ds.length := by omega
      subst e
      exact .inl ⟨ws, q _ H2 _ _ _ (r1.none gd hp) (r1.trans r2) hp2 ln nd da (ie ks es hI nd lk)⟩
theorem ints_of : ∀ {ds : List D}, (∀ d, d ∈ ds → ∃ i, d = D.int i) → ∃ is : List Int, ds = is.map D.int
  | [], _ => ⟨[], rfl⟩
  | d :: ds, h => by
    obtain ⟨i, rfl⟩ := h d List.mem_cons_self
    obtain ⟨is, rfl⟩ := ints_of fun d hd => h d (List.mem_cons_of_mem _ hd)
    exact ⟨i :: is, rfl⟩
theorem ef_ofN {PF : List (Key × V) → Prop} (h : EvN K B te Γ fun ks ds => (∀ d, d ∈ ds → ∃ i, d = .int i) ∧ ∀ is : List Int, ds = is.map D.int → PF (ks.zip (is.map V.int))) : EvF K B te Γ PF := fun M σ H Q g x q => h M σ H Q g x fun p H' ks vs ds hp r e ln nd dn ⟨hi, pk⟩ => by
  obtain ⟨is, rfl⟩ := ints_of hi
  have ev : ∀ {is : List Int} {vs : List V}, DenAll K (hid (p :: M) H') (is.map D.int) vs → vs = is.map V.int := by
    intro is
    induction is with
    | nil => intro vs h; cases h; rfl
    | cons i is ih =>
      intro vs h
      cases h with
      | cons h1 h2 => cases h1; rw [ih h2]; rfl
  have e2 := ev dn
  subst e2
  exact q p H' _ hp r e (pk is rfl)
/-! ### walked -/
/-- for k in d, a locked dict -/
theorem ei_keys {PI : List D → Prop} (h : Ev K B td Γ fun d => ∃ ks ds, d = .dK true ks ds ∧ PI (ks.map keyD)) : EvI K B (iKeys td) Γ PI := fun M σ H Rk g x q =>
  h M σ H _ g x fun v H1 d r ⟨ks, ds, e, p⟩ dn => by
    subst e
    cases dn with
    | @dKz a ob _ vs _ ha ln dn =>
      refine ⟨a, ob, rfl, .inl ⟨_, (hid_get ha).2, q _ H1 _ r p fun M' s1 s2 => ?_⟩⟩
      intro H2 g2 rv
      have h2 : H2 a = some (.frz ob (.dK (ks.zip vs))) := rv a _ (hid_of (fun z => by
        rcases s2 _ z with z | z
        · exact (hid_get ha).1 z
        · rw [(hid_get ha).2] at z; cases z) (hid_get ha).2)
      have lz : (ks.zip vs).length = ks.length := by rw [List.length_zip]; omega
      refine ⟨fun i d hi => ?_, ⟨h2, by rw [lz, List.length_map]; exact Nat.le_refl _⟩⟩
      rw [List.getElem?_map] at hi
      obtain ⟨k, hk, rfl⟩ := Option.map_eq_some_iff.mp hi
      have hl := (List.getElem?_eq_some_iff.mp hk).1
      refine ⟨⟨h2, by rw [lz]; exact hl⟩, fun y H3 z => ?_⟩
      obtain ⟨e, k', v', hk', ey⟩ := z
      subst e ey
      rw [List.getElem?_zip_eq_some] at hk'
      have ek : k = k' := Option.some.inj (hk.symm.trans hk'.1)
      rw [← ek]
      exact ⟨g2.refl, keyD_at k⟩
/-- sorted of a dict's keys, texts -/
theorem ev_sortD (h : EvA K B tr Γ fun es => ∃ (fz : Bool) (zs : List Str) (ds : List D), es = [.dK fz (zs.map Sum.inr) ds] ∧ zs.length < 64 ∧ ∀ ys : List Str, ys.Perm zs → sortedS ys = true → P (.lst (ys.map D.str))) :
    Ev K B (tCB (fun xs H Q => ∃ (a : Addr) (kvs : List (Key × V)) (ks : List Str), xs = [.ref a] ∧ Rd H a (.dK kvs) ∧ kvs.map (·.1) = ks.map Sum.inr ∧ ks.length < 64 ∧ ∀ ys p, ys.Perm ks → sortedS ys = true → H p = none → Q (.ref p) (upd H p (.lst (ys.map V.str)))) tr) Γ P := fun M σ H Q g x q =>
  h M σ H _ g x fun vs H1 ds r ⟨fz, zs, es, e, h64, p⟩ dn => by
    subst e
    have g1 := g.r r
    cases dn with
    | cons d1 dn =>
      cases dn
      obtain ⟨a, us, ev, ha, ln, du⟩ := d1.rdK
      subst ev
      rw [List.length_map] at ln
      refine ⟨a, _, zs, rfl, rd_hid ha, by rw [List.map_fst_zip (by rw [List.length_map]; omega)], h64, fun ys p' pm so hp => ?_⟩
      have r2 := g1.new (o := .lst (ys.map V.str)) hp
      exact q _ _ _ (r.trans r2) (p ys pm so) (.lst (hid_of (g1.fresh hp) upd_same) (dens_strs ys))
end
end DL

set_option maxHeartbeats 4000000
/-! over data: an __init__ that reads what it has stored -/
namespace DL
open PySem PySem.Spec PyProof.Rows L2 RZ RD RE
mutual
/-- no instance in it -/
def noIns : D → Bool
  | .lst ds => noInss ds
  | .tup ds => noInss ds
  | .ins _ _ _ => false
  | .dK _ _ ds => noInss ds
  | .exc _ _ ds => noInss ds
  | .dT _ _ ds => noInss ds
  | .fn _ _ _ _ ds => noInss ds
  | .tpz ds => noInss ds
  | _ => true
def noInss : List D → Bool
  | [] => true
  | d :: ds => noIns d && noInss ds
end
section
variable {K : PySem.W.Frag} {B : Bx} {M : List Addr} {H H1 : Hp} {Γ : Gam} {te ta : TE} {a C dx : Addr} {f : Str} {ns : List Str} {ds : List D} {P : Gam → List Str → List D → Prop}
/-- heaps that agree but for an instance at a -/
structure Agr (H H' : Hp) (a : Addr) (C dx : Addr) (fs : List (Str × V)) : Prop where
  at_ : H a = some (.ins C dx fs)
  off : ∀ b o, b ≠ a → H b = some o → H' b = some o
theorem Agr.get {H H' : Hp} {fs : List (Str × V)} (g : Agr H H' a C dx fs) {b : Addr} {o : HO} (h : H b = some o) (n : ∀ C dx fs, o ≠ .ins C dx fs) : H' b = some o := g.off b o (fun z => by
  rw [z, g.at_] at h
  exact n _ _ _ (Option.some.inj h).symm) h
mutual
theorem Den.noIns {H H' : Hp} {fs : List (Str × V)} (g : Agr H H' a C dx fs) : ∀ (d : D) (v : V), noIns d = true → Den K H d v → Den K H' d v
  | .non, _, _, h => by cases h; exact .non
  | .bl _, _, _, h => by cases h; exact .bl _
  | .int _, _, _, h => by cases h; exact .int _
  | .str _, _, _, h => by cases h; exact .str _
  | .ty _, _, _, h => by cases h; exact .ty _
  | .obj _, _, _, h => by cases h; exact .obj _
  | .lst ds, _, n, h => by
    cases h with
    | lst h1 h2 => exact .lst (g.get h1 fun _ _ _ z => by cases z) (DenAll.noIns g ds _ n h2)
  | .tup ds, _, n, h => by
    cases h with
    | tup h1 h2 =>
      refine .tup ?_ (DenAll.noIns g ds _ n h2)
      rcases h1 with (h1 | ⟨o, h1⟩) | h1
      · exact .inl (.inl (g.get h1 fun _ _ _ z => by cases z))
      · exact .inl (.inr ⟨o, g.get h1 fun _ _ _ z => by cases z⟩)
      · exact .inr h1
  | .ins C ns ds, _, n, h => by cases n
  | .dK fz ks ds, _, n, h => by
    cases h with
    | dK h1 h2 h3 => exact .dK (g.get h1 fun _ _ _ z => by cases z) h2 (DenAll.noIns g ds _ n h3)
    | dKz h1 h2 h3 => exact .dKz (g.get h1 fun _ _ _ z => by cases z) h2 (DenAll.noIns g ds _ n h3)
  | .exc C ns ds, _, n, h => by
    cases h with
    | exc h1 h2 h3 h4 => exact .exc (g.get h1 fun _ _ _ z => by cases z) (g.get h2 fun _ _ _ z => by cases z) h3 (DenAll.noIns g ds _ n h4)
  | .dT fz ks ds, _, n, h => by
    cases h with
    | dT h1 h2 h3 => exact .dT (g.get h1 fun _ _ _ z => by cases z) h2 (DenAll.noIns g ds _ n h3)
    | dTz h1 h2 h3 => exact .dTz (g.get h1 fun _ _ _ z => by cases z) h2 (DenAll.noIns g ds _ n h3)
  | .tph ks, _, n, h => by
    cases h with
    | tph h1 => exact .tph (g.get h1 fun _ _ _ z => by cases z)
  | .tpz ds, _, n, h => by
    cases h with
    | tpz h1 h2 h3 => exact .tpz (g.get h1 fun _ _ _ z => by cases z) h2 (DenAll.noIns g ds _ n h3)
  | .fn o c q cl ds, _, n, h => by
    cases h with
    | fn h1 h2 h3 h4 h5 h6 => exact .fn (g.get h1 fun _ _ _ z => by cases z) (g.get h2 fun _ _ _ z => by cases z) (fun p m => g.get (h3 p m) fun _ _ _ z => by cases z) h4 (DenAll.noIns g ds _ n h5) (h6.sub fun _ _ z => g.get z fun _ _ _ z => by cases z)
theorem DenAll.noIns {H H' : Hp} {fs : List (Str × V)} (g : Agr H H' a C dx fs) : ∀ (ds : List D) (vs : List V), noInss ds = true → DenAll K H ds vs → DenAll K H' ds vs
  | [], _, _, h => by cases h; exact .nil
  | d :: ds, _, n, h => by
    have n : (DL.noIns d && noInss ds) = true := n
    rw [Bool.and_eq_true] at n
    cases h with
    | cons h1 h2 => exact .cons (Den.noIns g d _ n.1 h1) (DenAll.noIns g ds _ n.2 h2)
end
/-- self.f = e, where e reads self -/
theorem ri_storeS {i : Nat} (hi : Γ[i]? = some (some (.obj a))) (c : Cls K C) (no : NoAttr K C f) (hf : f ∉ ns) (hl : ns.length ≤ 900)
    (h : Ev K B te (Γ.set i (some (.ins C ns ds))) fun y => noIns y = true ∧ P Γ (ns ++ [f]) (ds ++ [y])) : RnI K B (sFld K (tVar i) te f) a C Γ ns ds P := fun M σ H E dx z x q => by
  obtain ⟨ws0, ea0, ln0, dw0⟩ := z.ea
  obtain ⟨nb0, nl0⟩ := z.good.ni ea0
  have hs : ∀ b o, hid M H b = some o → hid (M.filter (· ≠ a)) H b = some o := fun b o e => hid_of (fun m => (hid_get e).1 (List.mem_filter.mp m).1) (hid_get e).2
  have fm : ∀ {b : Addr}, b ∈ M → b ≠ a → b ∈ M.filter (· ≠ a) := fun m n => List.mem_filter.mpr ⟨m, decide_eq_true n⟩
  have na : a ∉ M.filter (· ≠ a) := fun m => by
    have := (List.mem_filter.mp m).2
    simp at this
  have g' : Good K B (M.filter (· ≠ a)) H := ⟨fm z.good.mem (Ne.symm nb0.b), fm z.good.meml (Ne.symm nl0), fm z.good.memt (Ne.symm nb0.t), z.good.box, z.good.tb, fun b m => z.good.there b (List.mem_filter.mp m).1, z.good.fr, fun b m => fm (z.good.sub b m) fun e => z.za.2 (by rw [← e]; exact m), z.good.xk⟩
  obtain ⟨vi0, hv0, hd0⟩ := x.at_ i _ hi
  cases hd0
  have x' : EnvOk K (M.filter (· ≠ a)) H σ (Γ.set i (some (.ins C ns ds))) := by
    refine ⟨by rw [List.length_set]; exact x.len, fun k e hk => ?_⟩
    by_cases hki : k = i
    · subst hki
      have hlen := (List.getElem?_eq_some_iff.mp hi).1
      rw [List.getElem?_set_self hlen] at hk
      cases hk
      exact ⟨_, hv0, .ins (hid_of na ea0) ln0 (DenAll.sub hs _ _ dw0)⟩
    · rw [List.getElem?_set_ne (Ne.symm hki)] at hk
      obtain ⟨v, h1, h2⟩ := x.at_ k e hk
      exact ⟨v, h1, Den.sub hs _ _ h2⟩
  refine h _ σ H _ g' x' fun v H1 y r ⟨nI, p⟩ dv => ?_
  obtain ⟨ws, ea, ln, dw⟩ := (z.r r).ea
  have g1 := z.good.r r
  obtain ⟨nb, nl⟩ := g1.ni ea
  have nc : NoCode H1 a := .of ea fun φ z => by cases z
  have dv' : Den K (hid M H1) y v := Den.noIns (H := hid (M.filter (· ≠ a)) H1) ⟨hid_of na ea, fun b o n e => hid_of (fun m => (hid_get e).1 (fm m n)) (hid_get e).2⟩ _ _ nI dv
  refine ⟨_, hv0, a, C, dx, ns.zip ws, rfl, ea, c, no, ?_, ?_⟩
  · rw [List.length_zip]
    omega
  · rw [putF_end hf ln]
    have hp : hid M (upd H1 a (.ins C dx ((ns ++ [f]).zip (ws ++ [v])))) = hid M H1 := hid_put z.ia
    refine q σ _ Γ (ns ++ [f]) (ds ++ [y]) ⟨r.box.put nb.b nl, fun b o e n1 n2 => by rw [upd_ne n2]; exact r.2 b o e n1, fun t => (r.tb t).put nb.t nc⟩ ⟨g1.putOwn nb nl nc z.za.1, z.ia, z.za, ws ++ [v], upd_same, ?_, ?_⟩ ?_ p
    · rw [List.length_append, List.length_append, ln]; rfl
    · rw [hp]
      exact dw.snoc dv'
    · exact (x.r z.good r).sub fun b o e => by rw [hp]; exact e
end
end DL

set_option maxHeartbeats 4000000
/-! over data: a law's top -/
namespace DL
open PySem PySem.Spec PyProof.Rows L2 RZ RD RE
section
variable {P : Program} {w : World} {K : PySem.W.Frag} {mg : Str → Option Value} {base : Heap}
theorem ev_listOf {B : Bx} {Γ : Gam} {tr : TA} {PP : D → Prop} (h : EvA K B tr Γ fun ds => ∃ es, ds = [.lst es] ∧ PP (.lst es)) : Ev K B (tCB (fun xs H Q => ∃ p ys, xs = [.ref p] ∧ (SqL K H p ys ∨ SqT K H p ys) ∧ ∀ l, H l = none → Q (.ref l) (upd H l (.lst ys))) tr) Γ PP := fun M σ H Q g x q =>
  h M σ H _ g x fun vs H1 ds r ⟨es, e, p⟩ dn => by
    subst e
    have g1 := g.r r
    cases dn with
    | cons d1 dn =>
      cases dn
      cases d1 with
      | @lst _ xs _ ha hd =>
        refine ⟨_, xs, rfl, .inl (SqL.of (hid_get ha).2), fun l hl => ?_⟩
        have r2 := g1.new (o := .lst xs) hl
        exact q _ _ _ (r.trans r2) p (.lst (hid_of (g1.fresh hl) upd_same) (g1.dens r2 hd))
/-- from the heap to data: the box stands, the law's one wish is True -/
theorem to_data {b l : Addr} {H : Hp} {σ : L2.St} {Γ : Gam} {t : TS} {Q : VK} (hb : BoxOk K { b := b, l := l, t := b, q := Str.empty } H) (x : EnvOk K [b, l] H σ Γ) (h : Rn K { b := b, l := l, t := b, q := Str.empty } t Γ { nx := fun _ => False, rt := fun d => d = .bl true }) (q : ∀ H', Q (.bl true) H') :
    t { nx := fun _ H' => Q .non H', rt := Q } σ H := by
  obtain ⟨ns, i, r, m, c, h1, n1, h2, _⟩ := id hb
  refine h [b, l] σ H _ ⟨by simp, by simp, by simp, hb, .inl rfl, fun a ha => ?_, fun _ _ z => (by cases z), fun _ z => (by cases z), fun _ _ _ _ _ _ _ _ _ _ _ _ _ z => False.elim z⟩ x (fun _ _ _ _ p _ => False.elim p) (fun v H' d _ e dn => ?_) (fun _ _ _ _ p => False.elim p) fun _ _ _ _ p => False.elim p
  · rcases List.mem_cons.mp ha with e | ha
    · rw [e]; exact there_of h1 fun _ z => by cases z
    · have e : a = l := by simpa using ha
      rw [e]; exact there_of h2 fun _ z => by cases z
  · subst e
    cases dn
    exact q H'
theorem env2 {b : Addr} {H : Hp} {M : List Addr} {a : Addr} {n : Nat} : EnvOk K M H (some (V.ref a) :: some (V.ref b) :: List.replicate n none) (some (D.obj a) :: some (D.obj b) :: List.replicate n none) :=
  ⟨by simp, fun i d e => by
    match i, e with
    | 0, e =>
      have e' := Option.some.inj (Option.some.inj e)
      subst e'
      exact ⟨_, rfl, .obj a⟩
    | 1, e =>
      have e' := Option.some.inj (Option.some.inj e)
      subst e'
      exact ⟨_, rfl, .obj _⟩
    | j + 2, e =>
      have e : (List.replicate n (none : Option D))[j]? = some (some d) := e
      rw [List.getElem?_replicate] at e
      split at e <;> cases e⟩
def spLaw (K : PySem.W.Frag) : Sp := fun vs H Q _ => ∃ (a : Addr) (ns : List Int), vs = [.ref a] ∧ SqL K H a (ns.map V.int) ∧ ns.length ≤ 63 ∧ ∀ H', Q (.bl true) H'
theorem ev_mkD {B : Bx} {Γ : Gam} {tr : TA} {C : Addr} {ns : List Str} {n : Nat} {PP : D → Prop} {FN : Bx → List D → (List D → Prop) → Prop} {E0 : XK} {dvs : List V} {dds : List D} (hdd : ∀ H, DenAll K H dds dvs) (c : Cls K C) (no : ∀ f, f ∈ ns → NoAttr K C f)
    (h : EvA K B tr Γ fun ds => (ds ++ dds).length = n ∧ FN B (ds ++ dds) fun es => PP (.ins C ns es)) : Ev K B (tMake C (SpN K n ns FN) dvs E0 tr) Γ PP := fun M σ H Q g x q =>
  h M σ H _ g x fun vs H1 ds r ⟨hl, p⟩ dn => fun a dx ha hd ne => by
    have g1 := g.r r
    have hd' : ∀ b o, H1 b = some o → upd H1 dx (.own a) b = some o := fun b o e => by rw [upd_ne (ne_of_none e hd)]; exact e
    have r1 : R K B H1 (upd H1 dx (.own a)) := g1.new hd
    have g2 := g1.r r1
    have ha2 : (upd H1 dx (.own a)) a = none := by rw [upd_ne (Ne.symm ne)]; exact ha
    have dn2 := dn.app (hdd (hid M H1))
    refine ⟨B, a :: M, a, C, dx, vs ++ dvs, ds ++ dds, _, rfl, by rw [← dn2.length]; exact hl, g2.own ha2, List.mem_cons_self, ⟨g2.h0 ha2, g2.m0 ha2⟩, upd_same, c, no, DenAll.sub (hid_own ha2) _ _ (g1.dens r1 dn2), p, fun H' ws es k ea ln de pe => ⟨rfl, ?_⟩⟩
    refine q _ H' (.ins C ns es) (r.trans (r1.trans ((g2.new ha2).x.trans k |>.new ha2))) pe ?_
    exact .ins (hid_of (g1.fresh ha) ea) ln (DenAll.sub hid_less _ _ de)
end
end DL

set_option maxHeartbeats 4000000
/-! over data: what is owned in one turn of a loop, lent to an expression; fresh lists and dicts -/
namespace DL
open PySem PySem.Spec PyProof.Rows L2 RZ RD RE
mutual
/-- nothing in it can be changed -/
def hardD : D → Bool
  | .lst _ => false
  | .tup ds => hardDs ds
  | .ins _ _ ds => hardDs ds
  | .dK fz _ ds => fz && hardDs ds
  | .exc _ _ ds => hardDs ds
  | .dT fz _ ds => fz && hardDs ds
  | .fn _ _ _ _ ds => hardDs ds
  | .tpz ds => hardDs ds
  | _ => true
def hardDs : List D → Bool
  | [] => true
  | d :: ds => hardD d && hardDs ds
end
/-- a list or a dict that is not locked -/
def softO : HO → Prop
  | .lst _ => True
  | .dK _ => True
  | .dT _ => True
  | _ => False
section
variable {K : PySem.W.Frag} {H H' : Hp}
mutual
theorem Den.hard (g : ∀ b o, H b = some o → ¬ softO o → H' b = some o) : ∀ (d : D) (v : V), hardD d = true → Den K H d v → Den K H' d v
  | .non, _, _, h => by cases h; exact .non
  | .bl _, _, _, h => by cases h; exact .bl _
  | .int _, _, _, h => by cases h; exact .int _
  | .str _, _, _, h => by cases h; exact .str _
  | .ty _, _, _, h => by cases h; exact .ty _
  | .obj _, _, _, h => by cases h; exact .obj _
  | .lst ds, _, n, h => by cases n
  | .tup ds, _, n, h => by
    cases h with
    | tup h1 h2 =>
      refine .tup ?_ (DenAll.hard g ds _ n h2)
      rcases h1 with (h1 | ⟨o, h1⟩) | h1
      · exact .inl (.inl (g _ _ h1 fun z => z))
      · exact .inl (.inr ⟨o, g _ _ h1 fun z => z⟩)
      · exact .inr h1
  | .ins C ns ds, _, n, h => by
    cases h with
    | ins h1 h2 h3 => exact .ins (g _ _ h1 fun z => z) h2 (DenAll.hard g ds _ n h3)
  | .dK fz ks ds, _, n, h => by
    have n : (fz && hardDs ds) = true := n
    rw [Bool.and_eq_true] at n
    cases h with
    | dK h1 h2 h3 => exact absurd n.1 Bool.false_ne_true
    | dKz h1 h2 h3 => exact .dKz (g _ _ h1 fun z => z) h2 (DenAll.hard g ds _ n.2 h3)
  | .exc C ns ds, _, n, h => by
    cases h with
    | exc h1 h2 h3 h4 => exact .exc (g _ _ h1 fun z => z) (g _ _ h2 fun z => z) h3 (DenAll.hard g ds _ n h4)
  | .dT fz ks ds, _, n, h => by
    have n : (fz && hardDs ds) = true := n
    rw [Bool.and_eq_true] at n
    cases h with
    | dT h1 h2 h3 => exact absurd n.1 Bool.false_ne_true
    | dTz h1 h2 h3 => exact .dTz (g _ _ h1 fun z => z) h2 (DenAll.hard g ds _ n.2 h3)
  | .tph ks, _, n, h => by
    cases h with
    | tph h1 => exact .tph (g _ _ h1 fun z => z)
  | .tpz ds, _, n, h => by
    cases h with
    | tpz h1 h2 h3 => exact .tpz (g _ _ h1 fun z => z) h2 (DenAll.hard g ds _ n h3)
  | .fn o c q cl ds, _, n, h => by
    cases h with
    | fn h1 h2 h3 h4 h5 h6 => exact .fn (g _ _ h1 fun z => z) (g _ _ h2 fun z => z) (fun p m => g _ _ (h3 p m) fun z => z) h4 (DenAll.hard g ds _ n h5) (h6.sub fun _ _ z => g _ _ z fun z => z)
theorem DenAll.hard (g : ∀ b o, H b = some o → ¬ softO o → H' b = some o) : ∀ (ds : List D) (vs : List V), hardDs ds = true → DenAll K H ds vs → DenAll K H' ds vs
  | [], _, _, h => by cases h; exact .nil
  | d :: ds, _, n, h => by
    have n : (hardD d && hardDs ds) = true := n
    rw [Bool.and_eq_true] at n
    cases h with
    | cons h1 h2 => exact .cons (Den.hard g d _ n.1 h1) (DenAll.hard g ds _ n.2 h2)
end
end
section
variable {K : PySem.W.Frag} {B : Bx} {H0 H H1 : Hp} {M M0 : List Addr} {Γ Γ' : Gam} {Ω : Own} {P : Pso} {te te1 te2 ta tb : TE} {tr : TA} {t u : TS} {c : TT} {k0 : Nat}
/-- the names that hold what is owned, read as data -/
inductive Lent (Ω : Own) : Gam → Gam → Prop
  | nil {Γ : Gam} : Lent Ω Γ Γ
  | cons {Γ Γ' : Gam} {i j : Nat} {p : Addr} {c : Cell} (hi : Γ[i]? = some (some (.obj p))) (hj : Ω[j]? = some (p, c)) (h : Lent Ω (Γ.set i (some (cellD c))) Γ') : Lent Ω Γ Γ'
theorem StO.all (s : StO K B H0 M0 H Ω) : Good K B M0 H := s.m0.r s.r
theorem own_off (s : StO K B H0 M0 H Ω) {p : Addr} (hp : p ∈ keysO Ω) : p ∉ M0 := fun m => (s.m0.there p m).1 (s.fr p hp)
theorem less_all : ∀ a o, hid (keysO Ω ++ M0) H a = some o → hid M0 H a = some o := fun a o e => by
  obtain ⟨n, q⟩ := hid_get e
  exact hid_of (fun z => n (List.mem_append_right _ z)) q
theorem Lent.env {σ : L2.St} (s : StO K B H0 M0 H Ω) (l : Lent Ω Γ Γ') (x : EnvOk K M0 H σ Γ) : EnvOk K M0 H σ Γ' := by
  induction l with
  | nil => exact x
  | @cons Γ Γ' i j p c hi hj h ih =>
    refine ih ⟨by rw [List.length_set]; exact x.len, fun k e hk => ?_⟩
    by_cases hki : k = i
    · subst hki
      have hlen := (List.getElem?_eq_some_iff.mp hi).1
      rw [List.getElem?_set_self hlen] at hk
      cases hk
      obtain ⟨v, h1, h2⟩ := x.at_ k _ hi
      cases h2
      have hp : p ∈ keysO Ω := StO.key hj
      exact ⟨_, h1, ((s.cell p c (List.mem_of_getElem? hj)).sub (M' := M0) (fun o e => e) less_all).den (own_off s hp)⟩
    · rw [List.getElem?_set_ne (Ne.symm hki)] at hk
      exact x.at_ k e hk
theorem lend_env {σ : L2.St} (s : StO K B H0 M0 H Ω) (x : EnvOk K (keysO Ω ++ M0) H σ Γ) : EnvOk K M0 H σ Γ := x.sub less_all
/-- what is hard is seen without what is owned -/
theorem hard_in (s : StO K B H0 M0 H Ω) (r : R K B H H1) {y : D} {v : V} (hy : hardD y = true) (dv : Den K (hid M0 H1) y v) : Den K (hid (keysO Ω ++ M0) H1) y v := Den.hard (fun b o e n => by
  obtain ⟨nb, q⟩ := hid_get e
  refine hid_of (fun z => ?_) q
  rcases List.mem_append.mp z with z | z
  · obtain ⟨⟨p, c⟩, hc, e1⟩ := List.mem_map.mp z
    have e1 : p = b := e1
    subst e1
    have x := s.cell p c hc
    cases c with
    | lst ds =>
      obtain ⟨vs, h1, _⟩ := x
      have := r.2 p _ h1 (s.nb z).1
      rw [this] at q
      cases q
      exact n True.intro
    | dK ks ds =>
      obtain ⟨vs, h1, _⟩ := x
      have := r.2 p _ h1 (s.nb z).1
      rw [this] at q
      cases q
      exact n True.intro
    | dT ks ds =>
      obtain ⟨vs, h1, _⟩ := x
      have := r.2 p _ h1 (s.nb z).1
      rw [this] at q
      cases q
      exact n True.intro
  · exact nb z) y v hy dv
/-- x = e, e reading what is owned -/
theorem rw_setH (l : Lent Ω Γ Γ') (h : Ev K B te Γ' fun e => hardD e = true ∧ P.nx (Γ.set k0 (some e)) Ω) : Rw K B (tAsg te (gName k0)) H0 M0 Γ Ω P := fun σ H E s x k1 k2 k3 k4 =>
  h M0 σ H _ s.all (l.env s (lend_env s x)) fun v H1 e r ⟨fl, p⟩ dn => k1 _ H1 _ _ (r.go s.m0 s) (s.step r) ((x.r s.good r).set (hard_in s r fl dn)) p
theorem rw_ifH (l : Lent Ω Γ Γ') (h : EvT K B c Γ' fun k => if k = true then Rw K B t H0 M0 Γ Ω P else Rw K B u H0 M0 Γ Ω P) : Rw K B (tIfS c t u) H0 M0 Γ Ω P := fun σ H E s x k1 k2 k3 k4 =>
  h M0 σ H _ s.all (l.env s (lend_env s x)) fun k H1 r p => by
    cases k with
    | true =>
      rw [if_pos rfl] at p ⊢
      exact p σ H1 E (s.step r) (x.r s.good r) (fun σ2 H2 Γ2 Ω2 g2 => k1 σ2 H2 Γ2 Ω2 ((r.go s.m0 s).trans g2)) k2 (fun σ2 H2 Γ2 Ω2 g2 => k3 σ2 H2 Γ2 Ω2 ((r.go s.m0 s).trans g2)) fun σ2 H2 Γ2 Ω2 g2 => k4 σ2 H2 Γ2 Ω2 ((r.go s.m0 s).trans g2)
    | false =>
      rw [if_neg Bool.false_ne_true] at p ⊢
      exact p σ H1 E (s.step r) (x.r s.good r) (fun σ2 H2 Γ2 Ω2 g2 => k1 σ2 H2 Γ2 Ω2 ((r.go s.m0 s).trans g2)) k2 (fun σ2 H2 Γ2 Ω2 g2 => k3 σ2 H2 Γ2 Ω2 ((r.go s.m0 s).trans g2)) fun σ2 H2 Γ2 Ω2 g2 => k4 σ2 H2 Γ2 Ω2 ((r.go s.m0 s).trans g2)
theorem rw_dropH (l : Lent Ω Γ Γ') (h : Ev K B te Γ' fun e => P.nx Γ Ω) : Rw K B (tDrop te) H0 M0 Γ Ω P := fun σ H E s x k1 k2 k3 k4 =>
  h M0 σ H _ s.all (l.env s (lend_env s x)) fun v H1 e r p dn => k1 _ H1 _ _ (r.go s.m0 s) (s.step r) (x.r s.good r) p
theorem rw_retH (l : Lent Ω Γ Γ') (h : Ev K B te Γ' P.rt) : Rw K B (tRet te) H0 M0 Γ Ω P := fun σ H E s x k1 k2 k3 k4 =>
  h M0 σ H _ s.all (l.env s (lend_env s x)) fun v H1 e r p dn => k2 v H1 e (s.r.trans r) p dn
/-- a statement that leaves alone what is owned -/
theorem rw_plain (h : Rn K B t Γ { nx := fun Γ' => P.nx Γ' Ω, rt := P.rt, bk := fun Γ' => P.bk Γ' Ω, ct := fun Γ' => P.ct Γ' Ω }) : Rw K B t H0 M0 Γ Ω P := fun σ H E s x k1 k2 k3 k4 =>
  h (keysO Ω ++ M0) σ H E s.good x (fun σ' H' Γ' r p x' => k1 σ' H' Γ' Ω (r.go s.m0 s) (s.step r) x' p) (fun v H' d r p dn => k2 v H' d (s.r.trans r) p (den_out dn)) (fun σ' H' Γ' r p x' => k3 σ' H' Γ' Ω (r.go s.m0 s) (s.step r) x' p) fun σ' H' Γ' r p x' => k4 σ' H' Γ' Ω (r.go s.m0 s) (s.step r) x' p
/-- one turn that owns things of its own -/
theorem rn_own {P : Pst} (h : ∀ H0 M0, Rw K B t H0 M0 Γ [] { nx := fun Γ' _ => P.nx Γ', rt := P.rt, bk := fun Γ' _ => P.bk Γ', ct := fun Γ' _ => P.ct Γ' }) : Rn K B t Γ P := fun M σ H E g x k1 k2 k3 k4 =>
  h H M σ H E ⟨g.refl, g, g, fun p hp => (by cases hp), List.nodup_nil, fun p c hc => (by cases hc)⟩ x
    (fun σ' H' Γ' Ω' go s' x' p => k1 σ' H' Γ' s'.r p (lend_env s' x')) k2
    (fun σ' H' Γ' Ω' go s' x' p => k3 σ' H' Γ' s'.r p (lend_env s' x')) fun σ' H' Γ' Ω' go s' x' p => k4 σ' H' Γ' s'.r p (lend_env s' x')
/-! ### fresh lists -/
/-- e gives a new list -/
def EvL (K : PySem.W.Frag) (B : Bx) (te : TE) (Γ : Gam) (P : List D → Prop) : Prop := ∀ (M : List Addr) (σ : L2.St) (H : Hp) (Q : VK), Good K B M H → EnvOk K M H σ Γ →
  (∀ p H' vs ds, H p = none → R K B H H' → H' p = some (.lst vs) → DenAll K (hid (p :: M) H') ds vs → P ds → Q (.ref p) H') → te σ H Q
theorem ev_ofL {P : D → Prop} (h : EvL K B te Γ fun ds => P (.lst ds)) : Ev K B te Γ P := fun M σ H Q g x q => h M σ H Q g x fun p H' vs ds hp r e dn pk =>
  q _ H' _ r pk (.lst (hid_of (g.fresh hp) e) (DenAll.sub hid_less _ _ dn))
/-- list(x) of a list or a tuple -/
theorem el_listOf {P : List D → Prop} (h : EvA K B tr Γ fun ds => ∃ es, (ds = [.lst es] ∨ ds = [.tup es]) ∧ P es) : EvL K B (tCB (fun xs H Q => ∃ p ys, xs = [.ref p] ∧ (SqL K H p ys ∨ SqT K H p ys) ∧ ∀ l, H l = none → Q (.ref l) (upd H l (.lst ys))) tr) Γ P := fun M σ H Q g x q =>
  h M σ H _ g x fun vs H1 ds r ⟨es, e, p⟩ dn => by
    have g1 := g.r r
    rcases e with e | e
    · subst e
      cases dn with
      | cons d1 dn =>
        cases dn
        cases d1 with
        | @lst _ xs _ ha hd =>
          refine ⟨_, xs, rfl, .inl (SqL.of (hid_get ha).2), fun l hl => ?_⟩
          exact q l _ xs es (r.none g hl) (r.trans (g1.new hl)) upd_same (DenAll.sub (hid_own hl) _ _ hd) p
    · subst e
      cases dn with
      | cons d1 dn =>
        cases dn
        cases d1 with
        | @tup _ xs _ ha hd =>
          refine ⟨_, xs, rfl, .inr (SqT.sub hid_sub ha), fun l hl => ?_⟩
          exact q l _ xs es (r.none g hl) (r.trans (g1.new hl)) upd_same (DenAll.sub (hid_own hl) _ _ hd) p
theorem el_lst {P : List D → Prop} (h : EvA K B tr Γ fun ds => ds.length ≤ sizeLine ∧ P ds) : EvL K B (tLst tr) Γ P := fun M σ H Q g x q =>
  h M σ H _ g x fun vs H1 ds r ⟨hl, p⟩ dn => ⟨by rw [← dn.length]; exact hl, fun a ha => q a _ vs ds (r.none g ha) (r.trans ((g.r r).new ha)) upd_same (DenAll.sub (hid_own ha) _ _ dn) p⟩
/-- the list joins what is owned -/
theorem StO.take {p : Addr} {vs : List V} {ds : List D} (s : StO K B H0 M0 H Ω) (r : R K B H H1) (hp : H p = none) (e : H1 p = some (.lst vs)) (dn : DenAll K (hid (p :: (keysO Ω ++ M0)) H1) ds vs) : StO K B H0 M0 H1 ((p, .lst ds) :: Ω) := by
  have s1 := s.step r
  have na : p ∉ keysO Ω ++ M0 := s.good.fresh hp
  have su : ∀ b o, hid (keysO Ω ++ M0) H b = some o → hid (p :: (keysO Ω ++ M0)) H1 b = some o := fun b o q => by
    obtain ⟨n, q1⟩ := hid_get q
    refine hid_of (fun z => ?_) (r.2 b o q1 (s.good.no n))
    rcases List.mem_cons.mp z with z | z
    · rw [z, hp] at q1; cases q1
    · exact n z
  refine ⟨s1.r, ⟨List.mem_cons_of_mem _ s1.good.mem, List.mem_cons_of_mem _ s1.good.meml, List.mem_cons_of_mem _ s1.good.memt, s1.good.box, s1.good.tb, fun a ha => ?_, s1.good.fr, fun a ha => List.mem_cons_of_mem _ (s1.good.sub a ha), s1.good.xk⟩, s.m0, fun q hq => ?_, ?_, fun q c hc => ?_⟩
  · rcases List.mem_cons.mp ha with z | z
    · rw [z]; exact there_of e fun _ z => by cases z
    · exact s1.good.there a z
  · rcases List.mem_cons.mp hq with z | z
    · rw [z]; exact s.r.none s.m0 hp
    · exact s.fr q z
  · exact List.nodup_cons.mpr ⟨fun z => na (List.mem_append_left _ z), s.nd⟩
  · rcases List.mem_cons.mp hc with z | z
    · obtain ⟨e1, e2⟩ := Prod.mk.inj z
      subst e1 e2
      exact ⟨vs, e, dn⟩
    · exact (s.cell q c z).sub (fun o ho => r.2 q o ho (s.nb (List.mem_map.mpr ⟨(q, c), z, rfl⟩)).1) su
theorem take_go {p : Addr} {cc : Cell} (s : StO K B H0 M0 H Ω) (r : R K B H H1) (hp : H p = none) : Go M0 Ω ((p, cc) :: Ω) H H1 :=
  ⟨fun a o e => r.v (fun n => s.m0.no fun z => n (List.mem_append_right _ z)) a o e, fun q hq => (List.mem_cons.mp hq).elim (fun e => .inr (by rw [e]; exact hp)) .inl, fun a h z => h (r.none s.good z)⟩
theorem take_env {p : Addr} {σ : L2.St} (s : StO K B H0 M0 H Ω) (x : EnvOk K (keysO Ω ++ M0) H σ Γ) (r : R K B H H1) (hp : H p = none) : EnvOk K (p :: (keysO Ω ++ M0)) H1 σ Γ := env_behind x hp r fun n => s.good.no n
theorem rw_adopt {i : Nat} (h : EvL K B te Γ fun ds => ∀ p, P.nx (Γ.set i (some (.obj p))) ((p, .lst ds) :: Ω)) : Rw K B (tAsg te (gName i)) H0 M0 Γ Ω P := fun σ H E s x k1 k2 k3 k4 =>
  h _ σ H _ s.good x fun p H1 vs ds hp r e dn pk => k1 _ H1 _ ((p, .lst ds) :: Ω) (take_go s r hp) (s.take r hp e dn) ((take_env s x r hp).set (.obj p)) (pk p)
theorem rw_adopt2 {i j : Nat} (h : EvL K B te1 Γ fun ds => EvL K B te2 Γ fun es => ∀ p q, P.nx ((Γ.set i (some (.obj p))).set j (some (.obj q))) ((q, .lst es) :: (p, .lst ds) :: Ω)) : Rw K B (tPar i j (tCons te1 (tCons te2 tNil))) H0 M0 Γ Ω P := fun σ H E s x k1 k2 k3 k4 =>
  h _ σ H _ s.good x fun p H1 vs ds hp r e dn pk => by
    have s1 := s.take r hp e dn
    have x1 : EnvOk K (keysO ((p, Cell.lst ds) :: Ω) ++ M0) H1 σ Γ := take_env s x r hp
    refine pk _ σ H1 _ s1.good x1 fun q H2 ws es hq r2 e2 dn2 pk2 => ?_
    have s2 := s1.take r2 hq e2 dn2
    have x2 := take_env s1 x1 r2 hq
    exact ⟨_, _, rfl, k1 _ H2 _ _ ((take_go s r hp).trans (take_go s1 r2 hq)) s2 ((x2.set (.obj p)).set (.obj q)) (pk2 p q)⟩
/-! ### fresh dicts -/
theorem StO.takeN {p : Addr} {ks : List Key} {vs : List V} {ds : List D} (s : StO K B H0 M0 H Ω) (r : R K B H H1) (hp : H p = none) (e : H1 p = some (.dK (ks.zip vs))) (ln : ks.length = vs.length) (dn : DenAll K (hid (p :: (keysO Ω ++ M0)) H1) ds vs) : StO K B H0 M0 H1 ((p, .dK ks ds) :: Ω) := by
  have s1 := s.step r
  have na : p ∉ keysO Ω ++ M0 := s.good.fresh hp
  have su : ∀ b o, hid (keysO Ω ++ M0) H b = some o → hid (p :: (keysO Ω ++ M0)) H1 b = some o := fun b o q => by
    obtain ⟨n, q1⟩ := hid_get q
    refine hid_of (fun z => ?_) (r.2 b o q1 (s.good.no n))
    rcases List.mem_cons.mp z with z | z
    · rw [z, hp] at q1; cases q1
    · exact n z
  refine ⟨s1.r, ⟨List.mem_cons_of_mem _ s1.good.mem, List.mem_cons_of_mem _ s1.good.meml, List.mem_cons_of_mem _ s1.good.memt, s1.good.box, s1.good.tb, fun a ha => ?_, s1.good.fr, fun a ha => List.mem_cons_of_mem _ (s1.good.sub a ha), s1.good.xk⟩, s.m0, fun q hq => ?_, ?_, fun q c hc => ?_⟩
  · rcases List.mem_cons.mp ha with z | z
    · rw [z]; exact there_of e fun _ z => by cases z
    · exact s1.good.there a z
  · rcases List.mem_cons.mp hq with z | z
    · rw [z]; exact s.r.none s.m0 hp
    · exact s.fr q z
  · exact List.nodup_cons.mpr ⟨fun z => na (List.mem_append_left _ z), s.nd⟩
  · rcases List.mem_cons.mp hc with z | z
    · obtain ⟨e1, e2⟩ := Prod.mk.inj z
      subst e1 e2
      exact ⟨vs, e, ln, dn⟩
    · exact (s.cell q c z).sub (fun o ho => r.2 q o ho (s.nb (List.mem_map.mpr ⟨(q, c), z, rfl⟩)).1) su
theorem rw_adoptN {i : Nat} (h : EvN K B te Γ fun ks ds => ks.Nodup → ∀ p, P.nx (Γ.set i (some (.obj p))) ((p, .dK ks ds) :: Ω)) : Rw K B (tAsg te (gName i)) H0 M0 Γ Ω P := fun σ H E s x k1 k2 k3 k4 =>
  h _ σ H _ s.good x fun p H1 ks vs ds hp r e ln nd dn pk => k1 _ H1 _ ((p, .dK ks ds) :: Ω) (take_go s r hp) (s.takeN r hp e ln dn) ((take_env s x r hp).set (.obj p)) (pk nd p)
/-- what a def promises that hands back a new dict -/
def SpG (K : PySem.W.Frag) (n : Nat) (F : Bx → List D → (List Key → List D → Prop) → Prop) : Sp := fun vs H Q _ => vs.length = n ∧ ∃ (B : Bx) (M : List Addr) (ds : List D) (P : List Key → List D → Prop),
  Good K B M H ∧ DenAll K (hid M H) ds vs ∧ F B ds P ∧ ∀ p H' ks us es, H p = none → R K B H H' → H' p = some (.dK (ks.zip us)) → ks.length = us.length → ks.Nodup → DenAll K (hid (p :: M) H') es us → P ks es → Q (.ref p) H'
theorem run_new {N : List Str} {ds : List D} {vs : List V} {Q : VK} {PF : List Key → List D → Prop} (g : Good K B M H) (hd : DenAll K (hid M H) ds vs)
    (q : ∀ p H' ks us es, H p = none → R K B H H' → H' p = some (.dK (ks.zip us)) → ks.length = us.length → ks.Nodup → DenAll K (hid (p :: M) H') es us → PF ks es → Q (.ref p) H')
    (h : EvN K B te (startG N.length ds) PF) : (tRet te) { nx := fun _ H' => Q .non H', rt := Q } (L2.start N vs) H := h M (L2.start N vs) H _ g (startG_ok hd) q
/-- e.m(..), a new dict -/
theorem en_meth {C : Addr} {n : Nat} {PP : List Key → List D → Prop} {F : Bx → List D → (List Key → List D → Prop) → Prop} {m : Str} {E0 : XK} (h : Ev K B ta Γ fun d => ∃ ns ds, d = .ins C ns ds ∧ m ∉ ns ∧ EvA K B tr Γ fun es => es.length + 1 = n ∧ F B (d :: es) PP) : EvN K B (tMeth C m (SpG K n F) [] E0 ta tr) Γ PP := fun M σ H Q g x q =>
  h M σ H _ g x fun v H1 d r ⟨ns, ds, e, hm, p⟩ dn => by
    subst e
    cases dn with
    | @ins a _ dx _ ws _ ea ln dw =>
      refine ⟨a, dx, ns.zip ws, rfl, (hid_get ea).2, lookup_not hm, ?_⟩
      refine p M σ H1 _ (g.r r) (x.r g r) fun us H2 es r2 ⟨hl, pf⟩ de => ?_
      have d2 : Den K (hid M H2) (.ins C ns ds) (.ref a) := (g.r r).den r2 (.ins ea ln dw)
      rw [List.append_nil]
      exact ⟨by rw [List.length_cons, ← de.length]; exact hl, B, M, _, PP, (g.r r).r r2, .cons d2 de, pf, fun p H' ks us es hp r3 e l2 nd dn pk => q p H' ks us es ((r.trans r2).none g hp) ((r.trans r2).trans r3) e l2 nd dn pk⟩
theorem en_call {n : Nat} {PP : List Key → List D → Prop} {F : Bx → List D → (List Key → List D → Prop) → Prop} {E0 : XK} (h : EvA K B tr Γ fun ds => ds.length = n ∧ F B ds PP) : EvN K B (tCall (SpG K n F) [] E0 tr) Γ PP := fun M σ H Q g x q =>
  h M σ H _ g x fun vs H1 ds r1 ⟨hl, p1⟩ h1 => by
    show SpG K n F (vs ++ []) H1 Q E0
    rw [List.append_nil]
    exact ⟨by rw [← h1.length]; exact hl, B, M, ds, PP, g.r r1, h1, p1, fun p H2 ks us es hp r2 e l2 nd dn pk => q p H2 ks us es (r1.none g hp) (r1.trans r2) e l2 nd dn pk⟩
end
end DL

set_option maxHeartbeats 4000000
/-! over data: isinstance of the text's own classes; dict(pairs) -/
namespace DL
open PySem PySem.Spec PyProof.Rows L2 RZ RD RE
/-- what isinstance asks of a class -/
structure KCls (K : PySem.W.Frag) (C : Addr) : Prop where
  cl : Cls K C
  ha : PySem.W.findIn K (.ref C) "__class__" = some (some (.builtin "object.__class__"))
  hn : PySem.W.specialIn K (.builtin "object.__class__") "__get__" = some (some (.builtin "getset_descriptor.__get__"))
  ht : PySem.W.takesIn K (.builtin "object.__class__") = some true
  hm : PySem.W.mroIn K C (.type "object") = some true
section
variable {K : PySem.W.Frag} {B : Bx} {M : List Addr} {H H1 : Hp} {Γ : Gam} {te ta : TE} {tr : TA}
/-- isinstance(x, C) -/
theorem ev_isiC {P : D → Prop} {C : Addr} (h : EvA K B tr Γ fun ds => ∃ d k, ds = [d, .obj C] ∧ ((∃ C' ns fs, d = .ins C' ns fs ∧ KCls K C' ∧ PySem.W.kitOne K (.ref C') (.ref C) = some k) ∨ ∃ n, tyD d = some n ∧ PySem.W.kitOne K (.type n) (.ref C) = some k) ∧ P (.bl k)) : Ev K B (tCB (rIsi K) tr) Γ P := fun M σ H Q g x q =>
  h M σ H _ g x fun vs H1 ds r ⟨d, k, e, hk, p⟩ dn => by
    subst e
    cases dn with
    | cons d1 d2 =>
      cases d2 with
      | cons d2 d3 =>
        cases d3
        cases d2
        rcases hk with ⟨C', ns, fs, e, kc, hk⟩ | ⟨n, hn, hk⟩
        · subst e
          cases d1 with
          | ins ea ln dw => exact ⟨_, _, _, _, k, rfl, .own C, .base (.ins (hid_get ea).2 kc.cl kc.ha kc.hn kc.ht kc.hm), hk, q _ H1 _ r p (.bl _)⟩
        · exact ⟨_, _, _, _, k, rfl, .own C, tyD_ok hn d1, hk, q _ H1 _ r p (.bl _)⟩
/-! ### dict(pairs) -/
def mergeD : List Key → List D → List (Key × D) → List Key × List D
  | ks, ds, [] => (ks, ds)
  | ks, ds, p :: prs => mergeD (putKD ks ds p.1 p.2).1 (putKD ks ds p.1 p.2).2 prs
theorem mergeD_ok {H : Hp} : ∀ {prs : List (Key × D)} {ws : List V} {ks : List Key} {ds : List D} {vs : List V}, ks.Nodup → ks.length = vs.length → DenAll K H ds vs → DenAll K H (prs.map (·.2)) ws →
    ∃ vs', mergeK (ks.zip vs) ((prs.map (·.1)).zip ws) = (mergeD ks ds prs).1.zip vs' ∧ (mergeD ks ds prs).1.length = vs'.length ∧ DenAll K H (mergeD ks ds prs).2 vs' ∧ (mergeD ks ds prs).1.Nodup
  | [], _, ks, ds, vs, nd, ln, dn, h => by
    cases h
    exact ⟨vs, rfl, ln, dn, nd⟩
  | p :: prs, _, ks, ds, vs, nd, ln, dn, h => by
    cases h with
    | @cons w ws _ _ h1 h2 =>
      obtain ⟨us, e1, e2, e3⟩ := putKD_ok (k := p.1) nd ln dn h1
      obtain ⟨vs', a1, a2, a3, a4⟩ := mergeD_ok (prs := prs) (putKD_nd nd) e2 e3 h2
      refine ⟨vs', ?_, a2, a3, a4⟩
      rw [← e1] at a1
      exact a1
theorem pairs_of {M : List Addr} : ∀ {prs : List (Key × D)} {xs : List V}, DenAll K (hid M H) (prs.map fun kv => .tup [keyD kv.1, kv.2]) xs → ∃ (ps : List Addr) (ws : List V), xs = ps.map V.ref ∧ Paired (fun p kv => SqT K H p [kV kv.1, kv.2]) ps ((prs.map (·.1)).zip ws) ∧ DenAll K (hid M H) (prs.map (·.2)) ws
  | [], _, h => by
    cases h
    exact ⟨[], [], rfl, .nil, .nil⟩
  | p :: prs, _, h => by
    cases h with
    | cons h1 h2 =>
      obtain ⟨ps, ws, rfl, pr, dn⟩ := pairs_of h2
      cases h1 with
      | @tup a vs _ ha hv =>
        cases hv with
        | cons k1 hv =>
          cases hv with
          | @cons w _ _ _ k2 hv =>
            cases hv
            have ek := keyD_den k1
            subst ek
            exact ⟨a :: ps, w :: ws, rfl, .cons (SqT.sub hid_sub ha) pr, .cons k2 dn⟩
def rDictP (K : PySem.W.Frag) : List V → Hp → VK → Prop := fun xs H Q => ∃ (a : Addr) (ps : List Addr) (kvs : List (Key × V)), xs = [.ref a] ∧ SqL K H a (ps.map V.ref) ∧ Paired (fun p kv => SqT K H p [kV kv.1, kv.2]) ps kvs ∧
    ∀ p, H p = none → Q (.ref p) (upd H p (.dK (mergeK [] kvs)))
theorem call_dictPK {X : Cx} (K : PySem.W.Frag) (hcalm : X.calm = true) (hK : X.K = K := by rfl) : CallR X (.type "dict") (rDictP K) := by
  subst hK
  exact call_dictP hcalm
theorem en_dictP {P : List Key → List D → Prop} (h : EvA K B tr Γ fun ds => ∃ prs : List (Key × D), ds = [.lst (prs.map fun kv => .tup [keyD kv.1, kv.2])] ∧ P (mergeD [] [] prs).1 (mergeD [] [] prs).2) : EvN K B (tCB (rDictP K) tr) Γ P := fun M σ H Q g x q =>
  h M σ H _ g x fun vs H1 ds r ⟨prs, e, p⟩ dn => by
    subst e
    have g1 := g.r r
    cases dn with
    | cons d1 dn =>
      cases dn
      cases d1 with
      | @lst a xs _ ha hd =>
        obtain ⟨ps, ws, rfl, pr, dw⟩ := pairs_of hd
        refine ⟨a, ps, _, rfl, SqL.of (hid_get ha).2, pr, fun p' hp => ?_⟩
        obtain ⟨vs', a1, a2, a3, a4⟩ := mergeD_ok (ks := []) (ds := []) (vs := []) List.nodup_nil rfl .nil dw
        have a1 : mergeK [] ((prs.map (·.1)).zip ws) = _ := a1
        rw [a1]
        exact q p' _ _ vs' _ (r.none g hp) (r.trans (g1.new hp)) upd_same a2 a4 (DenAll.sub (hid_own hp) _ _ a3) p
end
end DL
namespace RD
open PySem PySem.Spec PyProof.Rows L2
theorem pe_fldK {X : Cx} {e : Expr} {ta : TE} {f : Str} {pos : Pos} (K : PySem.W.Frag) (he : PE X e ta) (hb : attributeBase e f X.env (eval e X.env) = eval e X.env) (hK : X.K = K := by rfl) : PE X (.Attribute e f pos) (tFld K ta f) := by
  subst hK
  exact pe_fld he hb
end RD

set_option maxHeartbeats 4000000
namespace RD
open PySem PySem.Spec PyProof.Rows L2
theorem op_eqPK {X : Cx} (K : PySem.W.Frag) (hu : X.A.units + 64 < cLine) (hK : X.K = K := by rfl) : OpR X (compareOp .Eq) (rEqP K) := by
  subst hK
  exact op_eqP hu
theorem op_in_seqK {X : Cx} (K : PySem.W.Frag) (hK : X.K = K := by rfl) : OpR X (compareOp .In) (rIn K false) := by
  subst hK
  exact op_in_seq
end RD

namespace RE
open PySem PySem.Spec PyProof.Rows L2
theorem rising_pw : ∀ {l : List Str} {p : Str}, risingS p l = true → (p :: l).Pairwise fun a b => ltL [.inr b] [.inr a] = false
  | [], p, _ => List.pairwise_singleton _ _
  | x :: l, p, h => by
    have h : (!ltCps x.cps.toList p.cps.toList && risingS x l) = true := h
    rw [Bool.and_eq_true] at h
    have ih := rising_pw h.2
    have hk : ltL [.inr x] [.inr p] = false := by
      have h1 : ltCps x.cps.toList p.cps.toList = false := by
        cases e : ltCps x.cps.toList p.cps.toList with
        | false => rfl
        | true => rw [e] at h; cases h.1
      rw [ltCps_eq] at h1
      unfold ltL
      split
      · rfl
      · exact h1
    refine List.pairwise_cons.mpr ⟨fun y hy => ?_, ih⟩
    rcases List.mem_cons.mp hy with e | hy
    · rw [e]; exact hk
    · exact ltL_ntrans hk (List.rel_of_pairwise_cons ih hy)
theorem sorted_pw {l : List Str} (h : sortedS l = true) : l.Pairwise fun a b => ltL [.inr b] [.inr a] = false := by
  cases l with
  | nil => exact List.Pairwise.nil
  | cons p l => exact rising_pw h
theorem sortedS_uniq {a b : List Str} (p : a.Perm b) (ha : sortedS a = true) (hb : sortedS b = true) : a = b :=
  List.Perm.eq_of_pairwise (le := fun a b => ltL [.inr b] [.inr a] = false) (fun x y _ _ h1 h2 => by
    have := ltL_tri h2 h1
    cases this
    rfl) (sorted_pw ha) (sorted_pw hb) p
end RE
namespace DL
open PySem PySem.Spec PyProof.Rows L2 RZ RD RE
theorem eqD_comm (d e : D) : PyData.eqv (pyD d) (pyD e) = PyData.eqv (pyD e) (pyD d) := PySem.W.eqv_comm _ _
theorem eqD_lst (xs ys : List D) : PyData.eqv (pyD (.lst xs)) (pyD (.lst ys)) = PyData.eqv (pyD (.tup xs)) (pyD (.tup ys)) := by simp [pyD, PyData.eqv]
theorem eqD_int (i j : Int) : PyData.eqv (pyD (.int i)) (pyD (.int j)) = decide (i = j) := by
  show (i == j) = _
  rw [Bool.eq_iff_iff, beq_iff_eq, decide_eq_true_iff]
end DL

set_option maxHeartbeats 4000000
/-! try: body, except (A, B, C) as n: suite; the suite calls defs and reads the exception's fields -/
namespace XA
open PySem PySem.Spec PyProof.Rows L2
abbrev Zn := L2.Zc
abbrev TakesN := L2.Takes
theorem fly_keep {B h h' : Heap} {l : List Env} {a : Addr} {Z : Obj → Prop} (x : HandSPX.FlyingZ B l a Z h) (k : ∀ b o, h.get? b = some o → h'.get? b = some o) : HandSPX.FlyingZ B l a Z h' := by
  obtain ⟨x1, x2, x3, oe, vs, T, oT, ts, y1, y2, y3, y4, y5, y6, y7, y8⟩ := x
  exact ⟨fun b o e => k b o (x1 b o e), x2, Heap.FunFrames.of_keeps (fun b o e _ => ⟨o, k b o e, rfl⟩) x3, oe, vs, T, oT, ts, k _ _ y1, y2, y3, y4, y5, y6, k _ _ y7, y8⟩
/-- what such a clause wishes of an exception of the body: slot i is the name's -/
def wAsT (K : PySem.W.Frag) (cs : List Value) (i : Nat) (ts : Addr → Value → Option Addr → TS) (Wout : WX) (D : Ends) : WX := fun cls d σ H => ∃ b, PySem.W.exmAny K cls cs = some b ∧
  (b = true → ∀ a, H a = none → ts a cls d { nx := fun σ' H' => D.nx (σ'.set i none) H', rt := D.rt, bk := fun σ' H' => D.bk (σ'.set i none) H', ct := fun σ' H' => D.ct (σ'.set i none) H' } (σ.set i (some (.ref a))) H) ∧ (b = false → Wout cls d σ H)
section
variable {X : Cx} {x1 x2 x3 n : Str} {c1 c2 c3 : Value} {i kk : Nat} {body suite : List Stmt} {b₀ : Stmt} {p1 p2 p3 tpos pos pos' : Pos} {tb : WX → TS} {ts : Addr → Value → Option Addr → TS} {Wout : WX}
theorem ps_try_asT (hs : X.stack = X.env :: X.outer) (hf : X.env.frame = some X.env.locals) (hN : X.N.Nodup) (hi : X.N[i]? = some n) (hln : X.env.kindOf n = some .local) (hc1 : Names X x1 c1) (hc2 : Names X x2 c2) (hc3 : Names X x3 c3) (tk : TakesN X Wout)
    (hb : ∀ (W : WX) (pn : List (Addr × Obj)) (xe : Value → Shared → Prop), TakesN (X.tr pn xe) W → PassesOwn (model X.prog X.w) X.A X.env xe → PSs (X.tr pn xe) body (tb W))
    (hsu : ∀ (a : Addr) (oe : Obj) (cls : Value) (d : Option Addr) (pn : List (Addr × Obj)), Zn cls d oe → (∃ vs, oe.data = .fields vs) → PSs (X.suite a ((a, oe) :: pn)) (b₀ :: suite) (ts a cls d)) :
    PS X (.Try body [.ExceptHandler (some (.Tuple [.Name x1 p1, .Name x2 p2, .Name x3 p3] kk tpos)) (some n) (b₀ :: suite) pos'] [] [] pos) (fun D σ H => tb (wAsT X.K [c1, c2, c3] i ts Wout D) D σ H) := by
  refine ⟨fun pins s σ H D I h => ?_⟩
  have okX := I.ok
  have frX : X.A.frames = some (X.env :: X.outer) := by rw [okX.frames, hs]
  refine wpAny_Try_except ?_
  refine wpAny_mono ((hb (wAsT X.K [c1, c2, c3] i ts Wout D) (X.pn ++ pins) (fun e s₁ => wpAny (model X.prog X.w) X.A (noteFrame e X.env) (fun _ s₂ => wpAny (model X.prog X.w) X.A (setFlight e none) (fun _ s₃ => wpAny (model X.prog X.w) X.A
    (handleBy e X.env [.ExceptHandler (some (.Tuple [.Name x1 p1, .Name x2 p2, .Name x3 p3] kk tpos)) (some n) (b₀ :: suite) pos']) (SP X pins D) X.xe s₃) X.xe s₂) X.xe s₁) (fun u s' xx => ?_) PassesOwn.looking).run [] s σ H D (I.toTry _) h) (fun f s1 hsp => ?_) (fun _ _ he => he)
  · obtain ⟨a, B, sI, pins', σ', H', cls, d, rfl, J', nb, up, sky, na, os, ag, b, hb1, yes, no⟩ := xx
    have J : Inv X pins σ' H' sI := J'.ofTry okX
    rw [show (X.tr (X.pn ++ pins) _).stack = X.stack from rfl, hs] at sky
    show wpAny (model X.prog X.w) X.A (noteFrame (.ref a) X.env) _ _ _
    refine L2.Sky.land L2.Zc.steady frX hf sky fun h3 fl3 up3 => ?_
    obtain ⟨oe3, vs3, he3, hz3, hd3⟩ := fl3.there
    have nfr : a ∉ frs (X.env :: X.outer) := fun m => by
      obtain ⟨_, o', e', nf⟩ := fl3.2.2.1.mem m
      rw [he3] at e'
      cases e'
      exact nf _ hd3
    have nL : a ≠ X.env.locals := fun z => nfr (List.mem_filterMap.mpr ⟨X.env, List.mem_cons_self, by rw [hf, z]⟩)
    have nF : a ∉ X.fs := fun m => by
      obtain ⟨e, he, q⟩ := List.mem_filterMap.mp m
      exact nfr (List.mem_filterMap.mpr ⟨e, List.mem_cons_of_mem _ he, q⟩)
    have J3 : Inv X pins σ' H' { s' with heap := h3 } := J.landed nb fl3.1 (up.trans up3) os ag
    have S3 := J3.suite he3 hd3 na nL nF
    refine wpAny_handleBy_cons (codeAny_handlers_test ?_) (fun q => by cases q)
    have name : ∀ {x : Str} {c : Value} {p : Pos} {Q E : Value → Shared → Prop}, Names X x c → Q c { s' with heap := h3 } → wpAny (model X.prog X.w) (X.A.mark (some (.ref a))) (eval (.Name x p) X.env) Q E { s' with heap := h3 } := fun {x c p Q E} ⟨g1, g2, g3⟩ q => by
      rcases g3 with m | ⟨m, v, nn⟩
      · exact ld_glob (X := X.suite a ((a, oe3) :: (X.pn ++ pins))) S3 g1 m q g2
      · exact ld_blt (X := X.suite a ((a, oe3) :: (X.pn ++ pins))) S3 g1 m v q nn g2
    refine wpAny_Tuple ?_
    refine wpAny_items_cons (name hc1 ?_)
    refine wpAny_items_cons (name hc2 ?_)
    refine wpAny_items_cons (name hc3 ?_)
    refine wpAny_items_nil ⟨by size_fits, ?_⟩
    obtain ⟨hp, ep⟩ : ∃ hp : Heap, hp = h3.push { cls := .type "tuple", data := .seq [c1, c2, c3].toArray } := ⟨_, rfl⟩
    have kp : ∀ q o, h3.get? q = some o → hp.get? q = some o := fun q o e => by rw [ep]; exact Heap.get?_push_of_some _ e
    have flp := fly_keep fl3 kp
    have LT : PySem.W.Looks (model X.prog X.w) hp (typeOf (.ref a)) cls := fun A Q E s k q => wpAny_typeOf_ref (k _ _ (kp _ _ he3)) (by rw [hz3.1]; exact q)
    have LM : PySem.W.Looks (model X.prog X.w) hp (excMatches (.ref a) (.ref h3.objs.size)) b := PySem.W.exm_tup3 (J3.kIn.keeps kp) LT (by rw [ep]; exact Heap.get?_push_size h3 rfl) hb1
    show wpAny (model X.prog X.w) (X.A.mark (some (.ref a))) (excMatches (.ref a) (.ref h3.objs.size)) _ _ { s' with heap := h3.push { cls := .type "tuple", data := .seq [c1, c2, c3].toArray } }
    rw [← ep]
    refine LM.here ?_
    have upp : sI.heap.UpToSlots hp := (up.trans up3).trans (Heap.UpToSlots.of_keeps kp)
    cases b with
    | true =>
      refine codeAny_handlers_suite_as ?_
      refine HandSPX.lands_againZ flp fun h4 fl4 up4 => ?_
      obtain ⟨oe4, vs4, he4, hz4, hd4⟩ := fl4.there
      have J4 : Inv X pins σ' H' { s' with heap := h4 } := J.landed nb fl4.1 (upp.trans up4) os ag
      refine store_ok (X := X.suite a ((a, oe4) :: (X.pn ++ pins))) (v := .ref a) (J4.suite he4 hd4 na nL nF) hN hi (.inl hln) rfl (fun s5 S5 => ?_) (.inr hln)
      refine wpAny_mono ((hsu a oe4 cls d (X.pn ++ pins) hz4 ⟨_, hd4⟩).run [] s5 _ H' _ S5 (yes rfl a na)) (fun f s6 hsp => ?_) (fun _ _ z => z.elim)
      have fin : ∀ {σ6 : L2.St} {H6 : Hp} {Q : Shared → Prop}, Inv (X.suite a ((a, oe4) :: (X.pn ++ pins))) [] σ6 H6 s6 → (∀ s7, Inv X pins (σ6.set i none) H6 s7 → Q s7) →
          wpAny (model X.prog X.w) X.A (do bindName X.env n .none; unbindBehindTheSuite X.env n pos') (fun _ s7 => Q s7) X.xe s6 := fun S6 hq => gone_ok (S6.unsuite okX) hN hi hln hq
      cases f with
      | next =>
        obtain ⟨_, _, S6, q⟩ := hsp
        exact fin S6 fun s7 J7 => ⟨_, _, J7, q⟩
      | brk =>
        obtain ⟨_, _, S6, q⟩ := hsp
        exact fin S6 fun s7 J7 => ⟨_, _, J7, q⟩
      | cont =>
        obtain ⟨_, _, S6, q⟩ := hsp
        exact fin S6 fun s7 J7 => ⟨_, _, J7, q⟩
      | ret u =>
        obtain ⟨_, _, _, S6, r, q⟩ := hsp
        exact fin S6 fun s7 J7 => ⟨_, _, _, J7, r, q⟩
    | false =>
      show wpAny _ X.A (handleBy (.ref a) X.env []) _ _ _
      refine wpAny_handleBy_nil ?_
      obtain ⟨_, _, _, oe, vs, T, oT, tt, he, hz, hd, h1, _⟩ := id flp
      unfold PySem.passOn
      refine wpAny_bind (wpAny_field he hd h1 ?_)
      rw [if_neg (show ¬ ((Value.ref T == Value.none) = true) from by simp)]
      have fin : wpAny (model X.prog X.w) X.A (setFlight (.ref a) X.env.frame) (fun _ s4 => wpAny (model X.prog X.w) X.A (throw (.ref a) : Sem Flow) (SP X pins D) X.xe s4) X.xe { s' with heap := hp } := by
        rw [hf]
        refine HandSPX.setFlight_upZ flp fun h4 hh4 up4 => wpAny_throw (tk _ _ ⟨a, B, sI, pins, σ', H', cls, d, rfl, J, nb, upp.trans up4, .inr (.inr (by rw [hs]; exact hh4)), na, os, ag, no rfl⟩)
      first
        | exact wpAny_bind (wpAny_pure (wpAny_bind fin))
        | exact wpAny_bind fin
  · cases f with
    | next =>
      obtain ⟨σ', H', J', q⟩ := hsp
      exact wpAny_execs_nil ⟨σ', H', J'.ofTry okX, q⟩
    | brk =>
      obtain ⟨σ', H', J', q⟩ := hsp
      exact ⟨σ', H', J'.ofTry okX, q⟩
    | cont =>
      obtain ⟨σ', H', J', q⟩ := hsp
      exact ⟨σ', H', J'.ofTry okX, q⟩
    | ret u =>
      obtain ⟨v, σ', H', J', r, q⟩ := hsp
      exact ⟨v, σ', H', J'.ofTry okX, r, q⟩
end
end XA
namespace XA
open PySem PySem.Spec PyProof.Rows L2 L2H
/-! ### fields of the handled exception -/
def tXfA (K : PySem.W.Frag) (a : Addr) (cls : Value) (d : Option Addr) (f : Str) (te : TE) : TE := fun σ H Q => te σ H fun x H1 => x = .ref a ∧ ∃ C : Addr, cls = .ref C ∧ XfC K C ∧ PySem.W.findIn K (.ref C) f = some none ∧
  ∃ (dd : Addr) (fs : List (Str × V)) (v : V), d = some dd ∧ H1 dd = some (.xd fs) ∧ fs.lookup f = some v ∧ Q v H1
theorem pe_xfH {X : Cx} {a : Addr} {oe : Obj} {cls : Value} {d : Option Addr} {e : Expr} {te : TE} {pos : Pos} {n : Str} (hp : (a, oe) ∈ X.pn) (hz : L2.Zc cls d oe) (hf : ∃ vs, oe.data = .fields vs) (he : PE X e te)
    (hb : attributeBase e n X.env (eval e X.env) = eval e X.env := by rfl) : PE X (.Attribute e n pos) (tXfA X.K a cls d n te) := by
  refine ⟨fun pins s σ H Q I h => attr_of hb (thn (he.run pins s σ H _ I h) fun u s1 hh => ?_)⟩
  obtain ⟨x, H1, I1, rx, ex, C, ec, T, hno, dd, fs, v, ed, ea, l, q⟩ := hh
  subst ex ec ed
  cases (show u = Value.ref a from rx)
  obtain ⟨vs, hd⟩ := hf
  obtain ⟨mA, hns, hr⟩ := (show ObjOk X.prog X.w H1 s1.heap dd (.xd fs) from I1.hok dd _ ea)
  obtain ⟨od, ho, hl⟩ := lookIn_ns hns
  obtain ⟨u, hu, ru⟩ := RelO.some_of (v := v) (o := mA n) (by rw [← l]; exact hr n)
  have J : PySem.W.InstAt s1.heap a oe C (some od) := ⟨(I1.pin (a, oe) (List.mem_append_left _ hp)).1, hz.1, by unfold PySem.W.notCls; rw [hd] <;> rfl, by rw [hz.2]; exact ho⟩
  exact HandSPX.exc_get I1.kIn J T.ga T.gg T.exC (PySem.W.findObj_own T.hdC hno rfl (by rw [hl, hu])) (handed_of ru) ⟨v, H1, I1.tok _, ru, q⟩
/-! ### what a def promises that is called in the suite with the exception at hand -/
structure FnZ (P : Program) (w : World) (K : PySem.W.Frag) (mg : Str → Option Value) (base : Heap) (CX : CXT) (k : Nat) (f : Addr) (fd : FuncData) (ps : List Str) (sp : Addr → Value → Option Addr → Sp) : Prop where
  len : ∀ a cls d vs H Q E, sp a cls d vs H Q E → vs.length = ps.length
  run : ∀ (A : Around) (outer : List Env) (s : Shared) (H : Hp) (args : Args) (us : List Value) (vs : List V) (Q : VK) (E : XK) (a : Addr) (oe : Obj) (cls : Value) (d : Option Addr), RoomH k A → PinOk outer H s (a, oe) → Zn cls d oe → (∃ vs, oe.data = .fields vs) →
    Env0 P w K mg base A outer s H → BindsTo s fd args (ps.zip us) → Vals vs us → sp a cls d vs H Q E → codeAny (model P w) A (.call (.ref f) args) (CR CX outer P w H s Q E) s
theorem fn_ofZ {CX : CXT} {P : Program} {w : World} {K : PySem.W.Frag} {mg : Str → Option Value} {base : Heap} {k : Nat} {f : Addr} {name qual : Str} {params : Arguments} {body : List Stmt} {scope : Scope} {dV kV doc pm cdv ct oc : Value} {an od : Option Addr} {osl : Array (Option Value)}
    {N ps : List Str} {sp : Addr → Value → Option Addr → Sp} (lk : K.lookup f = some ⟨oc, od, .func (PySem.W.fnOf name qual params body scope dV kV doc pm an cdv ct), osl⟩) (hcd : PySem.W.codeIn K cdv qual = true) (S : FnScope N ps scope) (len : ∀ a cls d vs H Q E, sp a cls d vs H Q E → vs.length = ps.length)
    (hbody : ∀ (A : Around) (outer : List Env) (s : Shared) (H : Hp) (vs : List V) (Q : VK) (E : XK) (a : Addr) (oe : Obj) (cls : Value) (d : Option Addr), Zn cls d oe → (∃ vs, oe.data = .fields vs) → RoomH k (A.deeper (envOfC qual scope s.heap.objs.size f cdv)) → sp a cls d vs H Q E →
      ∃ t, PSs (cxH CX P w K mg base N qual scope f cdv A outer s H E (a, oe)) body t ∧ t { nx := fun _ H' => Q .non H', rt := Q } (L2.start N vs) H) : FnZ P w K mg base CX (k + 1) f (PySem.W.fnOf name qual params body scope dV kV doc pm an cdv ct) ps sp := by
  refine ⟨len, fun A outer s H args us vs Q E a oe cls d hr pin hz hf e0 hb rv hsp => ?_⟩
  have KX : K.In s.heap := e0.mod.kin.keeps fun b o e => (e0.bs b o e).1
  have noLim : s.heap.NoLimit := e0.mod.nolimit.keeps fun b o e => (e0.bs b o e).1
  have kinds : ∀ y ∈ ps.zip us, scope.names.lookup y.1 = some .local ∨ (scope.names.lookup y.1 = some .cell ∧ ((cellsFrom (s.heap.objs.size + 1) scope.names []).lookup y.1).isSome = true) := fun ⟨m, v⟩ hy => (S.par m (List.of_mem_zip hy).1).elim .inl fun q => .inr ⟨q, PySem.W.cellsFrom_some _ _ _ (.inl q)⟩
  refine codeAny_call_function hr.depth (KX _ _ lk) rfl S.co S.gen rfl (PySem.W.codeRec_of KX hcd) (hb _ _ _ _ (wpAny_newFunctionEnv_cells S.kind kinds fun env he s1 x => ?_))
  subst he
  refine ⟨noLim.keeps x.toInCall.keep, codeAny_func ?_⟩
  obtain ⟨t, ht, hq⟩ := hbody A outer s H vs Q E a oe cls d hz hf (hr.deeper _) hsp
  refine wpAny_mono (ht.run [] s1 (L2.start N vs) H _ (inv_startH (CX := CX) (E := E) S pin e0 (len _ _ _ _ _ _ _ hsp) rv x) hq) (fun fl s' hs => ?_) fun _ _ hs => hs
  cases fl with
  | ret u =>
    obtain ⟨v, σ', H', J, r, q⟩ := hs
    exact ⟨v, H', J.os, J.bare, J.base, J.hok, r, q⟩
  | next =>
    obtain ⟨σ', H', J, q⟩ := hs
    exact ⟨.non, H', J.os, J.bare, J.base, J.hok, rfl, q⟩
  | brk => exact hs.elim fun _ z => z.elim fun _ z => z.2.elim
  | cont => exact hs.elim fun _ z => z.elim fun _ z => z.2.elim
/-- x(e ..), in the suite -/
theorem pe_callZ {X : Cx} {CX : CXT} {k : Nat} {f a : Addr} {oe : Obj} {cls : Value} {d : Option Addr} {fd : FuncData} {ps : List Str} {sp : Addr → Value → Option Addr → Sp} {x : Str} {q pos : Pos} {e : Expr} {es : List Expr} {t : TA} (F : FnZ X.prog X.w X.K X.mg X.base CX k f fd ps sp) (hr : RoomH k X.A)
    (hp : (a, oe) ∈ X.pn) (hh : X.A.handled = some (.ref a)) (hz : Zn cls d oe) (hf : ∃ vs, oe.data = .fields vs) (hg : Gl X x) (hm : X.mg x = some (.ref f)) (hk : PySem.W.keepIn X.K (.ref f) = true) (hb : L2.Binds X.K fd ps []) (hx : Passes CX X E0)
    (ha : PA X (e :: es) t) (hdb : (x == ("__debug__" : Str)) = false := by decide) (he : starEach (e :: es) X.env = (false, eval e X.env) :: starEach es X.env := by rfl) (hpl : (backTo pos (starEach es X.env)).any (·.1) = false := by rfl) :
    PE X (.Call (.Name x q) (e :: es) [] pos) (tCall (sp a cls d) [] E0 t) := by
  refine ⟨fun pins s σ H Q I h => wpAny_Call_Name_kw (ld_glob I hg hm (PySem.W.callWith_K (h₀ := X.base) I.ok.mod.kin hk (thn (ha.run pos pins s σ H _ I h) fun us s1 ⟨vs, H1, I1, r, qq⟩ => ⟨I1.kIn, ?_⟩) he hpl) hdb)⟩
  have qq : sp a cls d (vs ++ []) H1 Q E0 := qq
  rw [List.append_nil] at qq
  obtain ⟨fs, hd⟩ := id hf
  have b1 := hb s1 us I1.kIn (by rw [List.append_nil, ← r.length]; exact F.len _ _ _ _ _ _ _ qq)
  rw [List.append_nil] at b1
  have P1 := I1.pin (a, oe) (List.mem_append_left _ hp)
  refine wpAny_call (codeAny_mono (F.run X.A X.stack s1 H1 ⟨us, []⟩ us vs Q E0 a oe cls d hr ⟨P1.1, P1.2.1, fun m => (List.mem_cons.mp (I1.stkSub a m)).elim P1.2.2.1 P1.2.2.2.1, P1.2.2.2.2⟩ hz hf I1.env0 b1 r qq) fun rr s' hq => ?_)
  cases rr with
  | error e => exact hx pins σ H1 s1 e s' I1 hq
  | ok fl =>
    cases fl with
    | ret u => exact I1.after hq
    | next => exact hq.elim
    | brk => exact hq.elim
    | cont => exact hq.elim
end XA

set_option maxHeartbeats 4000000
/-! x(lambda: e): the lambda may raise, x may catch it and call on in its suite -/
namespace XB
open PySem PySem.Spec PyProof.Rows L2 LamX XA
section
variable {X : Cx} {pins : List (Addr × Obj)} {σ : L2.St} {H HZ : Hp} {s s1 : Shared}
/-- the lambda's name -/
abbrev lamQ (X : Cx) : Str := X.env.qual ++ "<lambda>"
theorem lam_makeT {c P : Addr} {params : Arguments} {body : Expr} {scope : Scope} {pos : Pos} {E Q : Value → Shared → Prop} (I : Inv X pins σ H s) (TB : TabB X.base X.mg c P) (hcode : X.env.code = .ref c) (hT : TabS H P (lamQ X)) (hdef : defaultsOf params X.env = ([], []))
    (hfree : ∀ y ∈ scope.names, y.2 = .free → ∃ c, X.env.cells.lookup y.1 = some c)
    (h : ∀ (f c' : Addr) (pm ctv : Value) (H1 : Hp) (s' : Shared), Inv X pins σ H1 s' → (∀ b o, b ≠ P → H b = some o → H1 b = some o) → TabS H1 P (lamQ X) → s'.heap.get? f = some (PySem.W.kla_obj "<lambda>" (lamQ X) params body scope (cloFrom X.env.cells scope.names []) pm c' ctv) →
      H1 f = none → f ∉ frs X.stack → H1 c' = some (CodeO c' (lamQ X)) → Q (.ref f) s') : wpAny (model X.prog X.w) X.A (eval (.Lambda params body scope pos) X.env) Q E s := by
  obtain ⟨ps, hP, ht, ha⟩ := id hT
  have bP := TB.bm.keeps I.bk
  have gP : s.heap.get? P = some { cls := .none, data := .fields ps } := I.hok P _ hP
  have off : ∀ f, s.heap.objs.size ≤ f → f ∉ frs X.stack := fun f hf z => (List.mem_cons.mp (I.stkSub _ z)).elim (fun e => Nat.lt_irrefl _ (Nat.lt_of_lt_of_le (by have h1 := I.lt; rwa [← e] at h1) hf)) (I.nofs hf)
  refine PySem.W.kla_eval hdef ?_
  cases hc : codeAmong pos ps.toList with
  | some cv =>
    obtain ⟨c', rfl, hco⟩ := ha pos cv hc
    refine PySem.W.kla_makeFunctionHit (mg := X.mg) (c := c) (P := P) (ps := ps) (closure_ok hfree) I.ok.glob (I.mod.glob.keeps I.bk) hcode (TB.code.keeps I.bk) gP ht hc bP fun ctv h' tk hx hsz => ?_
    have J : Inv X pins σ H { s with heap := h'.push (PySem.W.kla_obj "<lambda>" (lamQ X) params body scope (cloFrom X.env.cells scope.names []) ((X.mg "__name__").getD .none) c' ctv), toks := tk } := I.kept fun b o e => Heap.get?_push_of_some _ (hx b o e)
    exact h h'.objs.size c' ((X.mg "__name__").getD .none) ctv H _ J (fun _ _ _ e => e) hT (Heap.get?_push_size _ rfl) (I.hok.fresh hsz) (off _ hsz) hco
  | none =>
    refine PySem.W.kla_makeFunction (mg := X.mg) (c := c) (P := P) (ps := ps) (closure_ok hfree) I.ok.glob (I.mod.glob.keeps I.bk) hcode (TB.code.keeps I.bk) gP ht hc TB.gP bP fun c' ctv h' tk hx hge hlt hrec htb => ?_
    obtain ⟨c2, oc, vs, t, e2, hoc, hd, hv⟩ := hrec
    cases e2
    have hsz : s.heap.objs.size ≤ h'.objs.size := Nat.le_trans hge (Nat.le_of_lt hlt)
    have nC : H c' = none := I.hok.fresh hge
    have J := inv_table (t' := tk) (more := #[rawInt pos.line, rawInt pos.col, .ref c']) (h' := h'.push (PySem.W.kla_obj "<lambda>" (lamQ X) params body scope (cloFrom X.env.cells scope.names []) ((X.mg "__name__").getD .none) c' ctv)) I hP (fun b o hb e => Heap.get?_push_of_some _ (hx b o hb e))
      (Heap.get?_push_of_some _ htb) hge ⟨oc, vs, t, Heap.get?_push_of_some _ hoc, hd, hv⟩
    have ext : ∀ b o, b ≠ P → H b = some o → upd (upd H P (.tbl (ps ++ #[rawInt pos.line, rawInt pos.col, .ref c']))) c' (CodeO c' (lamQ X)) b = some o := fun b o n e => by
      rw [upd_ne (ne_of_none e nC), upd_ne n]; exact e
    have eL : (ps ++ #[rawInt pos.line, rawInt pos.col, Value.ref c']).toList = ps.toList ++ [rawInt pos.line, rawInt pos.col, .ref c'] := by simp
    refine h h'.objs.size c' ((X.mg "__name__").getD .none) ctv _ _ J ext ⟨_, by rw [upd_ne (ne_of_none hP nC), upd_same], by rw [eL]; exact PySem.TriplesOk_snoc _ _ _ _ ht, fun p' cv hcv => ?_⟩ (Heap.get?_push_size _ rfl) ?_ (off _ hsz) upd_same
    · rw [eL] at hcv
      rcases among_app _ ht hcv with z | z
      · obtain ⟨c0, e1, e2⟩ := ha p' cv z
        exact ⟨c0, e1, ext _ _ (fun z => by rw [z, hP] at e2; exact codeO_ne ps (Option.some.inj e2).symm) e2⟩
      · exact ⟨c', z, upd_same⟩
    · rw [upd_ne (Nat.ne_of_gt hlt), upd_ne (Nat.ne_of_gt (Nat.lt_of_lt_of_le (Heap.lt_size gP) hsz))]
      exact I.hok.fresh hsz
/-- the lambda's context, what leaves it told with its context None -/
def lamCxN (X : Cx) (A : Around) (outer : List Env) (s : Shared) (H : Hp) (E : XK) (scope : Scope) (f c' : Addr) : Cx := (lamCx X A outer s H E scope f c').tr []
  (fun e s' => wpAny (model X.prog X.w) (A.deeper (lamEnv X scope s.heap.objs.size f c')) (leaving (lamEnv X scope s.heap.objs.size f c') e) (fun _ s'' => L2.CX X.prog X.w outer H s E e s'') (fun e' s'' => L2.CX X.prog X.w outer H s E e' s'') s')
/-- x(), in the def that got the lambda: Z is that def's context, entered at s -/
theorem pe_actN {CXg : CXT} {Eg : XK} {Ng : List Str} {qg : Str} {sg : Scope} {g f c' : Addr} {cdg pm ctv : Value} {params : Arguments} {body : Expr} {scope : Scope} {k i : Nat} {a : Str} {pn : List (Addr × Obj)} {xe : Value → Shared → Prop} {W : WX} {E : XK} {tb : TE} {p1 p2 : Pos} (I : Inv X pins σ H s) (L : LamS X.env.scope scope)
    (hf : s.heap.get? f = some (PySem.W.kla_obj "<lambda>" (lamQ X) params body scope (cloFrom X.env.cells scope.names []) pm c' ctv)) (hfn : H f = none) (hfr : f ∉ frs X.stack) (hbind : bindArgs (PySem.W.kla_fn "<lambda>" (lamQ X) params body scope (cloFrom X.env.cells scope.names []) pm (.ref c') ctv) ⟨[], []⟩ = pure [])
    (tk : TakesN ((cxOf CXg X.prog X.w X.K X.mg X.base Ng qg sg g cdg X.A X.stack s H Eg).tr pn xe) W) (hW : ∀ cls d σ' H', E cls d H' → W cls d σ' H') (hr : Room (k + 1) (X.A.deeper (envOfC qg sg s.heap.objs.size g cdg)))
    (hbody : ∀ (A : Around) (outer : List Env) (s : Shared) (H : Hp), Room k (A.deeper (lamEnv X scope s.heap.objs.size f c')) → PE (lamCxN X A outer s H E scope f c') body tb) (hN : Ng[i]? = some a) (hv : Vis sg a) (hd : (a == ("__debug__" : Str)) = false := by decide) (hcd : (a == ("__classdict__" : Str)) = false := by decide) :
    PE ((cxOf CXg X.prog X.w X.K X.mg X.base Ng qg sg g cdg X.A X.stack s H Eg).tr pn xe) (.Call (.Name a p1) [] [] p2) (fun σZ HZ Q => σZ[i]? = some (some (.ref f)) ∧ HZ c' = some (CodeO c' (lamQ X)) ∧ tb σ HZ Q) := by
  refine ⟨fun pinsZ sZ σZ HZ Q IZ ⟨hs, hc, ht⟩ => wpAny_Call_Name_kw (thn ((pe_var (pos := p1) (i := i) hN hv hd hcd).run pinsZ sZ σZ HZ (fun v H1 => v = .ref f ∧ H1 = HZ) IZ ⟨.ref f, hs, rfl, rfl⟩) fun u s1 ⟨v, H1, I1, r1, ev, eH⟩ => ?_)⟩
  subst ev
  rw [eH] at I1
  cases (show u = Value.ref f from r1)
  have of1 := I1.base.keep f _ hf hfn hfr (fun z => nomatch (show f ∈ ([] : List Addr) from z))
  refine PySem.W.callWith_F0 ⟨_, _, _, _, of1⟩ ?_
  have un : Un (frs X.stack) [] H HZ s.heap s1.heap := I1.base
  obtain ⟨⟨oc, vs, t, hoc, hdc, hvc⟩, _, _⟩ := I1.hok c' _ hc
  have rc : codeAny (model X.prog X.w) (X.A.deeper (envOfC qg sg s.heap.objs.size g cdg)) (.call (.ref f) ⟨[], []⟩) (CR (L2.CX X.prog X.w) (envOfC qg sg s.heap.objs.size g cdg :: X.stack) X.prog X.w HZ s1 Q E) s1 := by
    refine PySem.W.kla_callFunE hr.depth of1 rfl L.co L.gen rfl ⟨c', oc, vs, t, rfl, hoc, hdc, hvc⟩ ?_
    rw [hbind]
    refine wpAny_pure (wpAny_newFunctionEnv (fun y hy => (L.own y hy).2) (fun y hy => absurd hy (by simp)) (fun h₁ hns hsb => ⟨I1.nolimit.fresh _ hsb, ?_⟩) L.kind)
    show codeAny _ _ (.expr body (lamEnv X scope s1.heap.objs.size f c')) _ _
    have J := (lam_start2 (E := E) (f := f) (c' := c') (tk := s1.toks + ([] : List (Str × Value)).length) I L I1.env0 hr.hd un hns fun b o e => hsb.extBut b o (Nat.ne_of_lt (Heap.lt_size e)) (Heap.get?_push_of_some _ e)).toTry
      (fun e s' => wpAny (model X.prog X.w) ((X.A.deeper (envOfC qg sg s.heap.objs.size g cdg)).deeper (lamEnv X scope s1.heap.objs.size f c')) (leaving (lamEnv X scope s1.heap.objs.size f c') e) (fun _ s'' => L2.CX X.prog X.w (envOfC qg sg s.heap.objs.size g cdg :: X.stack) HZ s1 E e s'')
        (fun e' s'' => L2.CX X.prog X.w (envOfC qg sg s.heap.objs.size g cdg :: X.stack) HZ s1 E e' s'') s')
    refine PySem.W.kla_codeExpr (wpAny_mono ((hbody _ _ s1 HZ (hr.deeper _)).run [] _ _ HZ Q J ht) (fun v s' hq => ?_) fun e s' hq => hq)
    obtain ⟨w', H', J', rv, q⟩ := hq
    exact ⟨w', H', J'.os, J'.bare, J'.base, J'.hok, rv, q⟩
  refine wpAny_call (codeAny_mono rc fun r s' hq => ?_)
  cases r with
  | error e => exact L2.passes_call tk hW pinsZ σZ HZ s1 e s' I1 hq
  | ok fl =>
    cases fl with
    | ret u => exact I1.after hq
    | next => exact hq.elim
    | brk => exact hq.elim
    | cont => exact hq.elim
end
/-- the def that calls what it got: a calls it; TT: what it makes of the lambda's reading -/
def GivesN (X : Cx) (Ng : List Str) (x : Str) (sg : Scope) (g : Addr) (cdg : Value) (bg : List Stmt) (a : Str) (q : Str) (TT : (XK → Hp → VK → Prop) → Hp → VK → Prop) : Prop := ∀ (f c' : Addr) (s : Shared) (H : Hp) (Q : VK) (tl : XK → Hp → VK → Prop),
  Room 20 (X.A.deeper (envOfC x sg s.heap.objs.size g cdg)) →
  (∀ (W : WX) (pn : List (Addr × Obj)) (xe : Value → Shared → Prop) (E : XK) (p1 p2 : Pos), TakesN ((cxOf C8.CX0 X.prog X.w X.K X.mg X.base Ng x sg g cdg X.A X.stack s H C8.E0).tr pn xe) W → (∀ cls d σ' H', E cls d H' → W cls d σ' H') →
    PE ((cxOf C8.CX0 X.prog X.w X.K X.mg X.base Ng x sg g cdg X.A X.stack s H C8.E0).tr pn xe) (.Call (.Name a p1) [] [] p2) (fun σZ HZ Q => σZ[0]? = some (some (.ref f)) ∧ HZ c' = some (CodeO c' q) ∧ tl E HZ Q)) →
  H c' = some (CodeO c' q) → TT tl H Q → ∃ t, PSs (cxOf C8.CX0 X.prog X.w X.K X.mg X.base Ng x sg g cdg X.A X.stack s H C8.E0).nox bg t ∧ t { nx := fun _ H' => Q .non H', rt := Q } (L2.start Ng [.ref f]) H
def tLamN (P : Addr) (q : Str) (TT : (XK → Hp → VK → Prop) → Hp → VK → Prop) (t : XK → TE) : TE := fun σ H Q => TabS H P q ∧ ∀ H1, (∀ b o, b ≠ P → H b = some o → H1 b = some o) → TabS H1 P q → TT (fun E H' Q' => t E σ H' Q') H1 Q
/-- x(lambda: body) -/
theorem pe_lamcallN {X : Cx} {x a : Str} {g c P : Addr} {k : Nat} {pg : Arguments} {bg : List Stmt} {sg : Scope} {dV kV doc pm cdv ct oc : Value} {an od : Option Addr} {osl : Array (Option Value)} {Ng : List Str} {TT : (XK → Hp → VK → Prop) → Hp → VK → Prop}
    {params : Arguments} {body : Expr} {scope : Scope} {t : XK → TE} {p lpos pos : Pos} (hg : Gl X x) (hm : X.mg x = some (.ref g)) (hk : PySem.W.keepIn X.K (.ref g) = true) (lk : X.K.lookup g = some ⟨oc, od, .func (PySem.W.fnOf x x pg bg sg dV kV doc pm an cdv ct), osl⟩) (hcg : PySem.W.codeIn X.K cdv x = true)
    (hb : L2.Binds X.K (PySem.W.fnOf x x pg bg sg dV kV doc pm an cdv ct) [a] []) (Sg : FnScope Ng [a] sg) (hNg : Ng[0]? = some a) (hva : Vis sg a) (hG : GivesN X Ng x sg g cdv bg a (lamQ X) TT) (TB : TabB X.base X.mg c P) (hcode : X.env.code = .ref c) (hk20 : 20 ≤ k + 1) (hr : Room (k + 2) X.A) (L : LamS X.env.scope scope)
    (hdef : defaultsOf params X.env = ([], [])) (hbind : ∀ (q : Str) (cl : List (Str × Addr)) (pm cv ctv : Value), bindArgs (PySem.W.kla_fn "<lambda>" q params body scope cl pm cv ctv) ⟨[], []⟩ = pure [])
    (hbody : ∀ (A : Around) (outer : List Env) (s : Shared) (H : Hp) (E : XK) (f c' : Addr), Room k (A.deeper (lamEnv X scope s.heap.objs.size f c')) → PE (lamCxN X A outer s H E scope f c') body (t E))
    (hdb : (x == ("__debug__" : Str)) = false := by decide) (hd : (a == ("__debug__" : Str)) = false := by decide) (hcd : (a == ("__classdict__" : Str)) = false := by decide) : PE X (.Call (.Name x p) [.Lambda params body scope lpos] [] pos) (tLamN P (lamQ X) TT t) := by
  refine ⟨fun pins s σ H Q I ⟨hT, h⟩ => wpAny_Call_Name_kw (ld_glob I hg hm (PySem.W.callWith_K (h₀ := X.base) I.ok.mod.kin hk ?_ (by rfl) (by rfl)) hdb)⟩
  show wpAny _ _ (spliced ((false, eval (.Lambda params body scope lpos) X.env) :: backTo pos (starEach [] X.env))) _ _ s
  refine Calls.spliced_cons (lam_makeT I TB hcode hT hdef (L.has I.ok) fun f c' pm' ctv H1 s' I1 eN T1 hf hfn hfr hco => Calls.spliced_nil ⟨I1.kIn, ?_⟩)
  have rc : codeAny (model X.prog X.w) X.A (.call (.ref g) ⟨[.ref f], []⟩) (CR C8.CX0 X.stack X.prog X.w H1 s' Q C8.E0) s' := run_ofS (N := Ng) (ps := [a]) (us := [.ref f]) (vs := [.ref f]) lk hcg Sg hr I1.env0 (hb s' [.ref f] I1.kIn rfl) (.cons rfl .nil) rfl fun hr' => by
    obtain ⟨t', ht', hq'⟩ := hG f c' s' H1 Q (fun E H' Q' => t E σ H' Q') (hr'.mono hk20) (fun W pn xe E p1 p2 tk hW => pe_actN (i := 0) I1 L hf hfn hfr (hbind _ _ _ _ _) tk hW hr' (fun A outer s H hr2 => hbody A outer s H E f c' hr2) hNg hva hd hcd) hco (h H1 eN T1)
    exact ⟨t', ht'.nox, hq'⟩
  refine wpAny_call (codeAny_mono rc fun r s2 hq => ?_)
  cases r with
  | error e => exact (show False from hq).elim
  | ok fl =>
    cases fl with
    | ret u => exact I1.after hq
    | next => exact hq.elim
    | brk => exact hq.elim
    | cont => exact hq.elim
theorem takes0N {X : Cx} : TakesN X (fun _ _ _ _ => False) := fun _ _ ⟨_, _, _, _, _, _, _, _, _, _, _, _, _, _, _, _, z⟩ => z.elim
end XB

set_option maxHeartbeats 4000000
/-! what is raised, over data: raise C(..); defs that raise; x(lambda: ..) -/
namespace XC
open PySem PySem.Spec PyProof.Rows L2 XE XA DL
/-- what raise asks of a class -/
structure XRs (K : PySem.W.Frag) (C : Addr) : Prop where
  exC : PySem.W.subIn K (.ref C) (.type "BaseException") = some true
  tyC : PySem.W.typeIn K (.ref C) = some (.type "type")
def tRx (C : Addr) (sp : Sp) (ta : TA) : L2.St → Hp → XK → Prop := fun σ H Q => ta σ H fun vs H1 => vs.length ≤ 1000 ∧ ∀ a, H1 a = none → sp (.ref a :: vs) (upd H1 a (exo a C none))
  (fun v H2 => v = .non ∧ ∃ (d : Addr) (fs : List (Str × V)), H2 a = some (exo a C (some d)) ∧ H2 d = some (exd d fs) ∧ H1 d = none ∧ Q (.ref C) (some d) (upd (del H2 a) d (.xd fs))) (fun _ _ _ => False)
section
variable {X : Cx} {C fI : Addr} {fd : FuncData} {ps : List Str} {sp : Sp} {k : Nat}
theorem run_rx {pins : List (Addr × Obj)} {σ : L2.St} {H1 : Hp} {s : Shared} {Q : XK} {us : List Value} {vs : List V} (T : XMk X.K C fI) (R : XRs X.K C) (F : FnOk X.prog X.w X.K X.mg X.base CX0 k fI fd ps sp) (hr : Room (k + 1) X.A) (hb : Binds X.K fd ps []) (I1 : Inv X pins σ H1 s) (r1 : Vals vs us) (hz : vs.length ≤ 1000)
    (h : ∀ a, H1 a = none → sp (.ref a :: vs) (upd H1 a (exo a C none)) (fun v H2 => v = .non ∧ ∃ (d : Addr) (fs : List (Str × V)), H2 a = some (exo a C (some d)) ∧ H2 d = some (exd d fs) ∧ H1 d = none ∧ Q (.ref C) (some d) (upd (del H2 a) d (.xd fs))) (fun _ _ _ => False)) :
    wpAny (model X.prog X.w) X.A (call (.ref C) us) (L2N.MkP X pins σ Q) X.xe s := by
  obtain ⟨B, newId, initId, bmB, FB, ei⟩ := T.base
  obtain ⟨nm, N, qn, bs, bm, hdct, sn, sub, ab, col, dd, k0, k1, k2, k3, k5, hC, hT⟩ := PySem.W.excInit_of I1.kIn ei
  obtain ⟨hp, g, dr, tk, os⟩ := s
  have big : hp.objs.size ≤ hp.objs.size + 1 := Nat.le_succ _
  have hq := h (hp.objs.size + 1) (I1.hok.fresh big)
  have get2 : ((hp.push (PySem.W.kdv_tup us)).push (PySem.HandSPX.excO C hp.objs.size)).get? (hp.objs.size + 1) = some (PySem.HandSPX.excO C hp.objs.size) := by heap_get
  have keep2 : ∀ b o, hp.get? b = some o → ((hp.push (PySem.W.kdv_tup us)).push (PySem.HandSPX.excO C hp.objs.size)).get? b = some o := fun b o q => Heap.get?_push_of_some _ (Heap.get?_push_of_some _ q)
  have I2 : Inv X pins σ (upd H1 (hp.objs.size + 1) (exo (hp.objs.size + 1) C none)) ⟨(hp.push (PySem.W.kdv_tup us)).push (PySem.HandSPX.excO C hp.objs.size), g, dr, tk, os⟩ := I1.laid (t' := tk) (a := hp.objs.size + 1) keep2 big (exo_ok get2)
  have r2 : Vals (V.ref (hp.objs.size + 1) :: vs) (Value.ref (hp.objs.size + 1) :: us) := .cons rfl r1
  have len2 : (Value.ref (hp.objs.size + 1) :: us ++ []).length = ps.length := by rw [List.append_nil, ← r2.length]; exact F.len _ _ _ _ hq
  have few : us.length ≤ sizeLine := by rw [← Paired.length r1, sizeLine_eq]; omega
  have bd := hb _ (Value.ref (hp.objs.size + 1) :: us) I2.kIn len2
  rw [List.append_nil] at bd
  refine wpAny_call (PySem.HandSPX.call_own FB hT hC (PySem.W.looks_findIn I1.kIn T.ini) (fun self => PySem.W.bind_fn I1.kIn self T.fn) few
    (codeAny_mono (F.run _ X.stack _ _ ⟨Value.ref (hp.objs.size + 1) :: us, []⟩ (Value.ref (hp.objs.size + 1) :: us) _ _ (fun _ _ _ => False) (hr.make C us []) (I2.env0.make C us []) bd r2 hq) fun rr s' z => ?_))
  cases rr with
  | error er => exact (show False from z).elim
  | ok fl =>
    cases fl with
    | next => exact False.elim z
    | brk => exact False.elim z
    | cont => exact False.elim z
    | ret u =>
      obtain ⟨v, H2, os2, bare2, un2, hok2, rv, ev, d, fs, ea, ed, hd1, q2⟩ := z
      subst ev
      obtain ⟨h2, g2, d2, t2, os'⟩ := s'
      obtain ⟨t0, G, J, kG, ge, hoe, na⟩ := mk_end0 (d2 := d2) (t2 := t2) I1 big keep2 un2 hok2 os2 bare2 ea ed hd1
      exact ⟨rv, _, _, _, ⟨G, g2, d2, t2, os'⟩, _, .ref C, some d, rfl, J, kG, ge, hoe, ⟨rfl, rfl, fun vs e => by cases e; rfl⟩, rfl, rfl, na, rfl, bare2, raises_own R.exC R.tyC, q2⟩
end
section
variable {X : Cx} {k n : Nat} {C : Addr} {ns : List Str} {F : Bx → List D → (List D → Prop) → Prop} {e : Expr} {es : List Expr} {ta : TA} {x : Str} {p pos : Pos}
/-- C(e, ..), to be raised -/
theorem pmk_C (T : Mkr X.prog X.w X.K X.mg X.base k x C n ns F) (R : XRs X.K C) (hr : Room (k + 1) X.A) (hg : Gl X x) (ha : PA X (e :: es) ta) (hdb : (x == ("__debug__" : Str)) = false := by decide)
    (he : starEach (e :: es) X.env = (false, eval e X.env) :: starEach es X.env := by rfl) (hpl : (backTo pos (starEach es X.env)).any (·.1) = false := by rfl) : L2N.PMk X (.Call (.Name x p) (e :: es) [] pos) (tRx C (SpXn X.K C n ns F) ta) := by
  obtain ⟨fI, fd, ps, Tm, FF, hb⟩ := T.ex
  exact fun pins s σ H Q I h => wpAny_Call_Name_kw (ld_glob I hg T.mg (PySem.W.callWith_K (h₀ := X.base) I.ok.mod.kin Tm.kp
    (thn (ha.run pos pins s σ H _ I h) fun us s1 ⟨vs, H1, I1, r, hz, q⟩ => ⟨I1.kIn, run_rx Tm R FF hr hb I1 r hz fun a hna => spXn_to T.st (q a hna)⟩) he hpl) hdb)
theorem pmk_C0 (T : Mkr X.prog X.w X.K X.mg X.base k x C n ns F) (R : XRs X.K C) (hr : Room (k + 1) X.A) (hg : Gl X x) (hdb : (x == ("__debug__" : Str)) = false := by decide) : L2N.PMk X (.Call (.Name x p) [] [] pos) (tRx C (SpXn X.K C n ns F) tNil) := by
  obtain ⟨fI, fd, ps, Tm, FF, hb⟩ := T.ex
  exact fun pins s σ H Q I h => wpAny_Call_Name_kw (ld_glob I hg T.mg (PySem.W.callWith_K0 I.kIn Tm.kp (run_rx (us := []) Tm R FF hr hb I .nil h.1 fun a ha => spXn_to T.st (h.2 a ha))) hdb)
end
/-- as Fun.ok, for a def that may raise -/
theorem okN {P : Program} {w : World} {K : PySem.W.Frag} {mg : Str → Option Value} {base : Heap} {x qual : Str} {st : Stmt} {f : Addr} {fd : FuncData} {N ps : List Str} {k : Nat} {sp : Sp} (F : Fun K x qual st f fd) (S : FnScope N ps (defScope st)) (len : ∀ vs H Q E, sp vs H Q E → vs.length = ps.length)
    (hbody : ∀ (cdv : Value) (A : Around) (outer : List Env) (s : Shared) (H : Hp) (vs : List V) (Q : VK) (E : XK), Room k (A.deeper (envOfC qual (defScope st) s.heap.objs.size f cdv)) → sp vs H Q E →
      ∃ t, PSs (cxOf (L2N.CX P w) P w K mg base N qual (defScope st) f cdv A outer s H E) (defBody st) t ∧ t { nx := fun _ H' => Q .non H', rt := Q } (L2.start N vs) H) : FnOk P w K mg base (L2N.CX P w) (k + 1) f fd ps sp := by
  obtain ⟨oc, od, kV, doc, pm, an, cdv, ct, osl, rfl, lk, hcd⟩ := F.ex
  exact fn_of lk hcd S len fun A outer s H vs Q E hr hsp => hbody cdv A outer s H vs Q E hr hsp
theorem passLN {X : Cx} : Passes (L2N.CX X.prog X.w) X E0 := fun _ _ _ _ _ _ _ ⟨_, _, _, _, _, _, _, _, _, _, _, _, z⟩ => z.elim
end XC
namespace DL
open PySem PySem.Spec PyProof.Rows L2 RZ RD RE XE XA XB XC
/-- the promise of a def that raises: F tells of P, what it hands back, and of PX, what it raises -/
def SpE (K : PySem.W.Frag) (n : Nat) (F : Bx → List D → (D → Prop) → (Addr → List Str → List D → Prop) → Prop) : Sp := fun vs H Q E => vs.length = n ∧ ∃ (B : Bx) (M : List Addr) (ds : List D) (P : D → Prop) (PX : Addr → List Str → List D → Prop),
  Good K B M H ∧ DenAll K (hid M H) ds vs ∧ F B ds P PX ∧ (∀ v H' d, R K B H H' → P d → Den K (hid M H') d v → Q v H') ∧
  ∀ H' C dx ns us es, R K B H H' → H dx = none → H' dx = some (.xd (ns.zip us)) → ns.length = us.length → DenAll K (hid M H') es us → PX C ns es → E (.ref C) (some dx) H'
section
variable {K : PySem.W.Frag} {B : Bx} {M : List Addr} {H H1 : Hp} {Γ : Gam} {te : TE} {tr : TA} {n : Nat} {P : D → Prop}
/-- what B wishes of an exception -/
theorem Good.raise (g : Good K B M H) {H' : Hp} {C dx : Addr} {ns : List Str} {us : List V} {es : List D} (r : R K B H H') (n0 : H dx = Option.none) (e : H' dx = some (.xd (ns.zip us))) (ln : ns.length = us.length) (dn : DenAll K (hid M H') es us) (p : B.PX C ns es) : B.E (.ref C) (some dx) H' :=
  g.xk H' C dx ns us es r.box (r.tb g.tb) (fun a o h na => r.two a o (g.fr a o h na) na) (g.h0 n0) e ln (DenAll.sub (fun a o h => by
    obtain ⟨q, z⟩ := hid_get h
    exact hid_of (fun m => q (g.sub a m)) z) _ _ dn) p
theorem ev_callE {F : Bx → List D → (D → Prop) → (Addr → List Str → List D → Prop) → Prop} {E : L2.St → XK} (hE : ∀ σ, E σ = B.E) (h : EvA K B tr Γ fun ds => ds.length = n ∧ F B ds P B.PX) : Ev K B (tCallS (SpE K n F) E tr) Γ P := fun M σ H Q g x q =>
  h M σ H _ g x fun vs H1 ds r1 ⟨hl, p⟩ h1 => by
    have g1 := g.r r1
    show SpE K n F vs H1 Q (E σ)
    rw [hE]
    exact ⟨by rw [← h1.length]; exact hl, B, M, ds, P, B.PX, g1, h1, p, fun v H' d r2 p2 h2 => q v H' d (r1.trans r2) p2 h2, fun H' C dx ns us es r2 n0 e ln dn px => g1.raise r2 n0 e ln dn px⟩
/-- a call that is known not to raise -/
theorem ev_callE0 {F : Bx → List D → (D → Prop) → (Addr → List Str → List D → Prop) → Prop} {E : XK} (h : EvA K B tr Γ fun ds => ds.length = n ∧ F B ds P fun _ _ _ => False) : Ev K B (tCall (SpE K n F) [] E tr) Γ P := fun M σ H Q g x q =>
  h M σ H _ g x fun vs H1 ds r1 ⟨hl, p⟩ h1 => by
    show SpE K n F (vs ++ []) H1 Q E
    rw [List.append_nil]
    exact ⟨by rw [← h1.length]; exact hl, B, M, ds, P, _, g.r r1, h1, p, fun v H' d r2 p2 h2 => q v H' d (r1.trans r2) p2 h2, fun _ _ _ _ _ _ _ _ _ _ _ px => px.elim⟩
/-- the same box, seen from a def's or a lambda's entry -/
structure Box' (B B' : Bx) : Prop where
  b : B'.b = B.b
  l : B'.l = B.l
  t : B'.t = B.t
  q : B'.q = B.q
/-- the body of a def that raises -/
theorem run_bodyE {N : List Str} {ds : List D} {vs : List V} {Q : VK} {E : XK} {PX : Addr → List Str → List D → Prop} {ts : TS} (g : Good K B M H) (hd : DenAll K (hid M H) ds vs) (q : ∀ v H' d, R K B H H' → P d → Den K (hid M H') d v → Q v H')
    (qx : ∀ H' C dx ns us es, R K B H H' → H dx = none → H' dx = some (.xd (ns.zip us)) → ns.length = us.length → DenAll K (hid M H') es us → PX C ns es → E (.ref C) (some dx) H')
    (h : ∀ B' : Bx, Box' B B' → B'.E = E → B'.PX = PX → Rn K B' ts (startG N.length ds) { nx := fun _ => P .non, rt := P }) : ts { nx := fun _ H' => Q .non H', rt := Q } (L2.start N vs) H := by
  have g' : Good K { B with H0 := H, M0 := M, E := E, PX := PX } M H := ⟨g.mem, g.meml, g.memt, g.box, g.tb, g.there, fun _ _ e _ => e, fun _ m => m, fun H' C dx ns us es bx tb fr n0 e ln dn px => qx H' C dx ns us es ⟨bx, fun a o h na => fr a o h ⟨na.b, na.t⟩, fun _ => tb⟩ n0 e ln dn px⟩
  have rr : ∀ {H'}, R K { B with H0 := H, M0 := M, E := E, PX := PX } H H' → R K B H H' := fun r => ⟨r.box, fun a o h na => r.two a o h ⟨na.b, na.t⟩, r.tb⟩
  exact run_body (B := { B with H0 := H, M0 := M, E := E, PX := PX }) g' hd (fun v H' d r p dn => q v H' d (rr r) p dn) (h _ ⟨rfl, rfl, rfl, rfl⟩ rfl rfl)
/-- raise C(..) -/
theorem rn_raise {Pn : Pst} {W : WX} {C : Addr} {ns : List Str} {F : Bx → List D → (List D → Prop) → Prop} {ta : TA} (hW : ∀ cls d σ H, W cls d σ H = B.E cls d H) (h : EvA K B ta Γ fun ds => ds.length = n ∧ n ≤ 1000 ∧ F B ds fun es => B.PX C ns es) :
    Rn K B (fun _ σ H => tRx C (SpXn K C n ns F) ta σ H fun cls d H' => W cls d σ H') Γ Pn := fun M σ H E g x k1 k2 k3 k4 => h M σ H _ g x fun vs H1 ds r ⟨hl, hn, p⟩ dn => by
  have g1 := g.r r
  refine ⟨by rw [← dn.length, hl]; exact hn, fun a ha => ?_⟩
  refine ⟨B, a :: M, a, vs, ds, _, rfl, by rw [← dn.length]; exact hl, g1.own ha ⟨fun q => exo_code, fun q z => nomatch z⟩, List.mem_cons_self, g1.h0 ha, upd_same, DenAll.sub (hid_own ha) _ _ dn, p, fun H' dx ws es n0 k ea' ed' ln de pe => ⟨rfl, ?_⟩⟩
  have ne : dx ≠ a := fun z => by rw [z, upd_same] at n0; cases n0
  have n1 : H1 dx = none := by rw [upd_ne ne] at n0; exact n0
  refine ⟨dx, ns.zip ws, ea', ed', n1, ?_⟩
  show W (.ref C) (some dx) σ _
  rw [hW]
  have r2 : R K B H1 H' := (g1.new ha).x.trans k |>.new ha
  have nb := g1.fresh_b ha
  have nl := g1.fresh_l ha
  have mb := g1.fresh_b n1
  have ml := g1.fresh_l n1
  have eq : ∀ b, b ≠ a → b ≠ dx → upd (del H' a) dx (.xd (ns.zip ws)) b = H' b := fun b h1 h2 => by rw [upd_ne h2, del_ne h1]
  have r3 : R K B H1 (upd (del H' a) dx (.xd (ns.zip ws))) := by
    refine ⟨?_, fun b o e nob => ?_, fun t => ?_⟩
    · obtain ⟨zs, i, r0, m, c, b1, b2, b3, b4⟩ := r2.box
      exact ⟨zs, i, r0, m, c, by rw [eq _ (Ne.symm nb.b) (Ne.symm mb.b)]; exact b1, b2, by rw [eq _ (Ne.symm nl) (Ne.symm ml)]; exact b3, b4⟩
    · rw [eq b (ne_of_none e ha) (ne_of_none e n1)]
      exact r2.two b o e nob
    · rcases r2.tb t with z | ⟨ps, t1, t2, t3⟩
      · exact .inl z
      · refine .inr ⟨ps, by rw [eq _ (Ne.symm nb.t) (Ne.symm mb.t)]; exact t1, t2, fun pos cv hc => ?_⟩
        obtain ⟨c0, e1, e2⟩ := t3 pos cv hc
        refine ⟨c0, e1, ?_⟩
        rw [eq c0 (fun z => ?_) (fun z => ?_)]
        · exact e2
        · rw [z] at e2
          have := ea'.symm.trans e2
          exact exo_code (Option.some.inj this)
        · rw [z] at e2
          have := ed'.symm.trans e2
          exact exd_code (Option.some.inj this)
  refine g1.raise r3 n1 upd_same ln (DenAll.sub (fun b o e => ?_) _ _ de) pe
  obtain ⟨nm, e1⟩ := hid_get e
  have h1 : b ≠ dx := fun z => nm (by rw [z]; exact List.mem_cons_self)
  have h2 : b ≠ a := fun z => nm (by rw [z]; exact List.mem_cons_of_mem _ List.mem_cons_self)
  exact hid_of (fun m => nm (List.mem_cons_of_mem _ (List.mem_cons_of_mem _ m))) (by rw [eq b h2 h1]; exact e1)
end
end DL

set_option maxHeartbeats 4000000
/-! try: return ("", ask()) / except (A, B, C) as e: return (e.code, y(e)) -/
namespace XD
open PySem PySem.Spec PyProof.Rows L2 L2H LamX XE XA XB XC
def wGot (K : PySem.W.Frag) (cs : List Value) (sp : Addr → Value → Option Addr → Sp) (Q : VK) : XK := fun cls d H' => PySem.W.exmAny K cls cs = some true ∧ ∀ a, H' a = none → ∃ C : Addr, cls = .ref C ∧ XfC K C ∧ PySem.W.findIn K (.ref C) "code" = some none ∧
  ∃ (dd : Addr) (fs : List (Str × V)) (v : V), d = some dd ∧ H' dd = some (.xd fs) ∧ fs.lookup ("code" : Str) = some v ∧ sp a cls d [.ref a] H' (fun y H2 => [v, y].length ≤ sizeLine ∧ ∀ p, H2 p = none → Q (.ref p) (upd H2 p (.tup [v, y]))) E0
def TTgot (K : PySem.W.Frag) (cs : List Value) (sp : Addr → Value → Option Addr → Sp) : (XK → Hp → VK → Prop) → Hp → VK → Prop := fun tl H Q => tl (wGot K cs sp Q) H fun v H1 => [V.str "", v].length ≤ sizeLine ∧ ∀ p, H1 p = none → Q (.ref p) (upd H1 p (.tup [.str "", v]))
theorem takes_len {X : Cx} {W : WX} (tk : TakesN X W) : TakesN X (fun cls d σ H => σ.length = X.N.length → W cls d σ H) := fun u s' ⟨a, B, sI, pins, σ, H, cls, d, e, I, nb, up, sky, na, os, ag, w⟩ => tk u s' ⟨a, B, sI, pins, σ, H, cls, d, e, I, nb, up, sky, na, os, ag, w I.len⟩
theorem got_gives {X : Cx} {Ng : List Str} {x a n y x1 x2 x3 q pn : Str} {C1 C2 C3 fy g : Addr} {sg : Scope} {cdg : Value} {kf j e1 e2 e3 : Nat} {fdy : FuncData} {sp : Addr → Value → Option Addr → Sp} {p1 p2 p3 p8 q0 q1 r0 r1 r2 r3 u0 u1 u2 u3 u4 u5 u6 u7 : Pos}
    (g1 : sg.names.lookup x1 = some .globalImplicit) (g2 : sg.names.lookup x2 = some .globalImplicit) (g3 : sg.names.lookup x3 = some .globalImplicit) (gy : sg.names.lookup y = some .globalImplicit) (m1 : X.mg x1 = some (.ref C1)) (m2 : X.mg x2 = some (.ref C2)) (m3 : X.mg x3 = some (.ref C3)) (my : X.mg y = some (.ref fy))
    (d1 : (x1 == ("__debug__" : Str)) = false) (d2 : (x2 == ("__debug__" : Str)) = false) (d3 : (x3 == ("__debug__" : Str)) = false) (dy : (y == ("__debug__" : Str)) = false) (dn : (n == ("__debug__" : Str)) = false) (dn2 : (n == ("__classdict__" : Str)) = false) (nd : Ng.Nodup) (hn : Ng[1]? = some n) (hln : sg.names.lookup n = some .local)
    (h0 : ∀ f : Addr, (L2.start Ng [V.ref f])[0]? = some (some (V.ref f))) (ky : PySem.W.keepIn X.K (.ref fy) = true) (F : FnZ X.prog X.w X.K X.mg X.base CX0 kf fy fdy [pn] sp) (hkf : kf ≤ 20) (by_ : L2.Binds X.K fdy [pn] []) :
    GivesN X Ng x sg g cdg [.Try [.Return (some (.Tuple [.Constant (.str "") j q1, .Call (.Name a p1) [] [] p2] e1 q0)) p3] [.ExceptHandler (some (.Tuple [.Name x1 r1, .Name x2 r2, .Name x3 r3] e2 r0)) (some n)
      [.Return (some (.Tuple [.Attribute (.Name n u1) "code" u2, .Call (.Name y u3) [.Name n u4] [] u5] e3 u0)) u6] u7] [] [] p8] a q (TTgot X.K [.ref C1, .ref C2, .ref C3] sp) := by
  intro f c' s H Q tl hroom act hc h
  obtain ⟨Z, hZ⟩ : ∃ Z : Cx, Z = (cxOf C8.CX0 X.prog X.w X.K X.mg X.base Ng x sg g cdg X.A X.stack s H C8.E0).nox := ⟨_, rfl⟩
  refine ⟨_, pss_one (ps_try_asT (X := (cxOf C8.CX0 X.prog X.w X.K X.mg X.base Ng x sg g cdg X.A X.stack s H C8.E0).nox) (i := 1) (c1 := .ref C1) (c2 := .ref C2) (c3 := .ref C3)
      (tb := fun W D σ H => ∃ Ech : XK, (∀ cls d σ' H', Ech cls d H' → σ'.length = Ng.length → W cls d σ' H') ∧ σ[0]? = some (some (.ref f)) ∧ H c' = some (CodeO c' q) ∧ tl Ech H fun v H1 => [V.str "", v].length ≤ sizeLine ∧ ∀ p, H1 p = none → D.rt (.ref p) (upd H1 p (.tup [.str "", v])))
      (ts := fun a cls d => tRet (tTup (tCons (tXfA X.K a cls d "code" (tVar 1)) (tCons (tCall (sp a cls d) [] E0 (tCons (tVar 1) tNil)) tNil))))
      rfl rfl nd hn hln ⟨g1, d1, .inl m1⟩ ⟨g2, d2, .inl m2⟩ ⟨g3, d3, .inl m3⟩ takes0N (fun W pn' xe tk _ => ?_) (fun a' oe cls d pn' hz hf => ?_)), ?_⟩
  · refine ⟨fun pins s' σ H' D I ⟨Ech, hW, i1, i2, i3⟩ => ?_⟩
    have hp := act _ pn' xe Ech p1 p2 (takes_len tk) hW
    refine (pss_one (ps_ret (pos := p3) (pe_tup (pos := q0) (pa_cons pe_str (pa_cons hp pa_nil))))).run pins s' σ H' D I ?_
    exact ⟨i1, i2, i3⟩
  · have pin : (a', oe) ∈ ((a', oe) :: pn') := List.mem_cons_self
    have hv : Vis sg n := .inl hln
    refine pss_one (ps_ret (pe_tup (pa_cons (pe_xfH pin hz hf (pe_var hn hv dn dn2) rfl) (pa_cons (pe_callZ F ⟨?_, ?_⟩ pin rfl hz hf gy my ky by_ pass0 (pa_cons (pe_var hn hv dn dn2) pa_nil) dy) pa_nil))))
    · have := hroom.dp
      show (X.A.deeper (envOfC x sg s.heap.objs.size g cdg)).depth + 3 * kf + 5 < _
      omega
    · have := hroom.un
      show (X.A.deeper (envOfC x sg s.heap.objs.size g cdg)).units + 16 * kf + 200 < _
      omega
  · refine ⟨_, fun cls d σ' H' hw hl => ?_, h0 f, hc, h⟩
    obtain ⟨hx, hs⟩ := hw
    refine ⟨true, hx, fun _ a' na => ?_, fun z => by cases z⟩
    obtain ⟨C, ec, xf, hcd, dd, fs, v, ed, hd, hl2, hsp⟩ := hs a' na
    have hx1 : 1 < σ'.length := by rw [hl]; exact (List.getElem?_eq_some_iff.mp hn).1
    have get : (σ'.set 1 (some (V.ref a')))[1]? = some (some (V.ref a')) := List.getElem?_set_self hx1
    exact ⟨_, get, rfl, C, ec, xf, hcd, dd, fs, v, ed, hd, hl2, _, get, hsp⟩
end XD

set_option maxHeartbeats 4000000
/-! which field of an exception the laws look at; x(lambda: ..) over data -/
namespace XD
open PySem PySem.Spec PyProof.Rows L2 L2H LamX XE XA XB XC DL
def fldL1 : List Str := ["InvalidNumber", "InvalidName", "InvalidThings", "InvalidNames", "InvalidSaying", "InvalidInputs", "InvalidStop"]
def fldL2 : List Str := ["InvalidTable", "Unfit", "DuplicateName", "NotAccepted", "UnknownTable", "UnknownName"]
def fldL4 : List Str := ["InvalidCell", "InvalidStep", "InvalidCommand"]
def fldL5 : List Str := ["TooLong", "TooMany", "Full"]
/-- the fields that are handed back for a code -/
inductive Fl where
  | one (f : Str)
  | two (f g : Str)
  | no
def fieldOf (z : Str) : Fl := if inS z fldL1 then .one "given" else if inS z fldL2 then .one "name" else if decide (z = "InvalidRow") then .two "table" "at" else if inS z fldL4 then .one "at" else if inS z fldL5 then .one "most" else if decide (z = "InvalidText") then .one "line" else .no
def fieldN : List Str := ["code", "given", "name", "table", "at", "most", "line"]
def SubH (H H' : Hp) : Prop := ∀ b o, H b = some o → H' b = some o
def spField (K : PySem.W.Frag) : Addr → Value → Option Addr → Sp := fun a cls d vs H Q _ => vs = [.ref a] ∧ ∃ (C dd : Addr) (fs : List (Str × V)) (z : Str), cls = .ref C ∧ XfC K C ∧ (∀ f, f ∈ fieldN → PySem.W.findIn K (.ref C) f = some none) ∧ d = some dd ∧ H dd = some (.xd fs) ∧ fs.lookup ("code" : Str) = some (.str z) ∧
  match fieldOf z with
  | .one f => ∃ v, fs.lookup f = some v ∧ ∀ H', SubH H H' → Q v H'
  | .two f g => ∃ v u, fs.lookup f = some v ∧ fs.lookup g = some u ∧ ∀ H' p, SubH H H' → H' p = none → Q (.ref p) (upd H' p (.tup [v, u]))
  | .no => ∀ H', SubH H H' → Q .non H'
/-- a class whose exceptions the clause takes -/
structure Hnd (K : PySem.W.Frag) (cs : List Value) (C : Addr) : Prop where
  xf : XfC K C
  no : ∀ f, f ∈ fieldN → PySem.W.findIn K (.ref C) f = some none
  ex : PySem.W.exmAny K (.ref C) cs = some true
end XD
namespace DL
open PySem PySem.Spec PyProof.Rows L2 LamX RZ RD RE TL XE XA XB XC XD
theorem sz2 {n : Nat} (h : n ≤ 1000) : n ≤ sizeLine := by rw [sizeLine_eq]; omega
/-- what the law makes of an exception -/
def gotX (K : PySem.W.Frag) (cs : List Value) (P : D → Prop) : Addr → List Str → List D → Prop := fun C ns es => Hnd K cs C ∧ ∃ z, fldD "code" ns es = some (.str z) ∧
  match fieldOf z with
  | .one f => ∃ y, fldD f ns es = some y ∧ P (.tup [.str z, y])
  | .two f g => ∃ y y', fldD f ns es = some y ∧ fldD g ns es = some y' ∧ P (.tup [.str z, .tup [y, y']])
  | .no => P (.tup [.str z, .non])
section
variable {K : PySem.W.Frag} {B : Bx} {M : List Addr} {H H1 : Hp} {Γ : Gam} {P : D → Prop}
theorem R.box' {B' : Bx} (r : R K B' H H1) (e : Box' B B') : R K B H H1 := by
  obtain ⟨e1, e2, e3, e4⟩ := e
  obtain ⟨b, l, t, q, h0, m0, E, px⟩ := B
  obtain ⟨b', l', t', q', h0', m0', E', px'⟩ := B'
  cases e1
  cases e2
  cases e3
  cases e4
  exact ⟨r.box, fun a o h n => r.two a o h ⟨n.b, n.t⟩, r.tb⟩
theorem ev_got {q : Str} {cs : List Value} {t : XK → TE} (tb : B.t ≠ B.b) (hq : B.q = q) (h : ∀ B' : Bx, Box' B B' → B'.PX = gotX K cs P → Ev K B' (t B'.E) Γ fun d => P (.tup [.str "", d])) : Ev K B (tLamN B.t q (TTgot K cs (spField K)) t) Γ P := fun M σ H Q g x k => by
  subst hq
  have tab : TabS H B.t B.q := g.tb.resolve_left tb
  refine ⟨tab, fun H1 ext T1 => ?_⟩
  have r : R K B H H1 := by
    refine ⟨?_, fun a o e n => ext a o n.t e, fun _ => .inr T1⟩
    obtain ⟨zs, i, r0, m, c, b1, b2, b3, b4⟩ := g.box
    refine ⟨zs, i, r0, m, c, ext _ _ (Ne.symm tb) b1, b2, ext _ _ (fun z => ?_) b3, b4⟩
    obtain ⟨ps, t1, _⟩ := tab
    rw [z, t1] at b3
    cases b3
  have g1 := g.r r
  have x1 := x.r g r
  obtain ⟨Ech, hE⟩ : ∃ Ech : XK, Ech = wGot K cs (spField K) Q := ⟨_, rfl⟩
  have rr : ∀ {H2}, R K { B with H0 := H1, M0 := M, E := Ech, PX := gotX K cs P } H1 H2 → R K B H1 H2 := fun r => ⟨r.box, fun a o h na => r.two a o h ⟨na.b, na.t⟩, r.tb⟩
  have new2 : ∀ {H2 : Hp} {p : Addr} {o : HO}, R K B H1 H2 → H2 p = none → R K B H (upd H2 p o) := fun r2 hp => r.trans (r2.trans ((g1.r r2).new hp))
  have xk : XkOk K { B with H0 := H1, M0 := M, E := Ech, PX := gotX K cs P } := fun H2 C dx ns us es bx tbx fr n0 e ln dn px => by
    have r2 : R K B H1 H2 := ⟨bx, fun a o h na => fr a o h ⟨na.b, na.t⟩, fun _ => tbx⟩
    have g2 := g1.r r2
    obtain ⟨hn, z, hz, hp⟩ := px
    obtain ⟨v, hv, dv⟩ := fld_ok ln dn hz
    cases dv
    show Ech (.ref C) (some dx) H2
    rw [hE]
    refine ⟨hn.ex, fun a na => ⟨C, rfl, hn.xf, hn.no _ (by decide), dx, _, _, rfl, e, hv, rfl, C, dx, _, z, rfl, hn.xf, hn.no, rfl, e, hv, ?_⟩⟩
    have sub : ∀ {H3 : Hp}, SubH H2 H3 → R K B H2 H3 := fun s => R.ofSub g2 s
    cases ef : fieldOf z with
    | one f =>
      rw [ef] at hp
      obtain ⟨y, hy, py⟩ := hp
      obtain ⟨w, hw, dw⟩ := fld_ok ln dn hy
      refine ⟨w, hw, fun H3 s => ⟨sz2 (Nat.le_of_ble_eq_true rfl), fun p np => ?_⟩⟩
      have r3 := sub s
      refine k _ _ _ (new2 (r2.trans r3) np) py (.tup (.inl (.inl (hid_of ((g2.r r3).fresh np) upd_same))) (.cons (.str z) (.cons ?_ .nil)))
      exact (g2.r r3).den ((g2.r r3).new np) (g2.den r3 dw)
    | two f f' =>
      rw [ef] at hp
      obtain ⟨y, y', hy, hy', py⟩ := hp
      obtain ⟨w, hw, dw⟩ := fld_ok ln dn hy
      obtain ⟨w', hw', dw'⟩ := fld_ok ln dn hy'
      refine ⟨w, w', hw, hw', fun H3 p0 s np0 => ⟨sz2 (Nat.le_of_ble_eq_true rfl), fun p np => ?_⟩⟩
      have r3 := sub s
      have g3 := g2.r r3
      have r4 := g3.new (o := .tup [w, w']) np0
      have g4 := g3.r r4
      have r5 := g4.new (o := .tup [.str z, .ref p0]) np
      refine k _ _ _ (new2 ((r2.trans r3).trans r4) np) py (.tup (.inl (.inl (hid_of (g4.fresh np) upd_same))) (.cons (.str z) (.cons ?_ .nil)))
      exact g4.den r5 (.tup (.inl (.inl (hid_of (g3.fresh np0) upd_same))) (.cons (g3.den r4 (g2.den r3 dw)) (.cons (g3.den r4 (g2.den r3 dw')) .nil)))
    | no =>
      rw [ef] at hp
      refine fun H3 s => ⟨sz2 (Nat.le_of_ble_eq_true rfl), fun p np => ?_⟩
      have r3 := sub s
      exact k _ _ _ (new2 (r2.trans r3) np) hp (.tup (.inl (.inl (hid_of ((g2.r r3).fresh np) upd_same))) (.cons (.str z) (.cons .non .nil)))
  have g' : Good K { B with H0 := H1, M0 := M, E := Ech, PX := gotX K cs P } M H1 := ⟨g1.mem, g1.meml, g1.memt, g1.box, g1.tb, g1.there, fun _ _ e _ => e, fun _ m => m, xk⟩
  show t (wGot K cs (spField K) Q) σ H1 _
  rw [← hE]
  refine h { B with H0 := H1, M0 := M, E := Ech, PX := gotX K cs P } ⟨rfl, rfl, rfl, rfl⟩ rfl M σ H1 _ g' ⟨x1.len, x1.at_⟩ fun v H2 d r2 pd dn => ⟨sz2 (Nat.le_of_ble_eq_true rfl), fun p np => ?_⟩
  have r2' := rr r2
  have g2 := g1.r r2'
  exact k _ _ _ (new2 r2' np) pd (.tup (.inl (.inl (hid_of (g2.fresh np) upd_same))) (.cons (.str "") (.cons (g2.den (g2.new np) dn) .nil)))
end
end DL

set_option maxHeartbeats 4000000
/-! for i, x in enumerate(a tuple) -/
namespace XG
open PySem PySem.Spec PyProof.Rows L2
theorem meets_enum1 {v : Value} {o : Obj} {H : Heap → Prop} (B : Begins v o H) : Meets (Builtin.«enumerate.__new__» ⟨[.type "enumerate", v], []⟩) (fun _ R s => H s.heap ∧
    R (.ok (.ret (.ref (s.heap.push o).objs.size))) { s with heap := (s.heap.push o).push { cls := .type "enumerate", data := .fields #[.none, .bool false, .ref s.heap.objs.size, rawInt 0, .none, .none] } }) :=
  .of_wp fun prog w A R s h => by
    obtain ⟨hp, g, d, tk, os⟩ := s
    obtain ⟨h1, h2⟩ := h
    have hsub := sub_enumerate
    have st : ∀ {A' : Around} {E Q : Value → Shared → Prop}, Q (.ref hp.objs.size) ⟨hp.push o, g, d, tk, os⟩ → wpAny (model prog w) A' (pyIter v) Q E ⟨hp, g, d, tk, os⟩ := fun q => B.iter prog w _ _ ⟨hp, g, d, tk, os⟩ _ h1 q
    wp_walk using st
    refine wpAny_stack_any fun zz => wpAny_pure ?_
    split
    · rename_i c _ _ _ _ _
      cases (c == Value.type "enumerate") <;> (wp_walk using st; exact ⟨_, rfl, h2⟩)
    · wp_walk using st
      exact ⟨_, rfl, h2⟩
theorem call_enumT {prog : Program} {w : World} {A : Around} {E Q : Value → Shared → Prop} {s : Shared} {t : Addr} {items : Array Value} (ht : s.heap.IsTuple t items)
    (h : ∀ h', IsEnum h' (s.heap.objs.size + 1) s.heap.objs.size 0 .none → h'.IsTupleIter s.heap.objs.size t 0 → h'.objs.size = s.heap.objs.size + 2 → (∀ b o, s.heap.get? b = some o → h'.get? b = some o) → Q (.ref (s.heap.objs.size + 1)) { s with heap := h' }) :
    wpAny (model prog w) A (call (.type "enumerate") [.ref t]) Q E s := by
  obtain ⟨o, ho⟩ : ∃ o : Obj, o = { cls := .type "tuple_iterator", data := .fields #[.ref t, .int 0 0] } := ⟨_, rfl⟩
  have fo : o.isFreed = false := by rw [ho]; rfl
  have B : Begins (.ref t) o fun h => h.IsTuple t items := by rw [ho]; exact begins_tuple t items
  refine callType_new F.called_enumerate (by decide) (F.typeCall_enumerate_1 _) (F.newCall_enumerate_1 _) (fun obj => F.args_object_init_2 obj _) F.entry_enumerate_new (meets_enum1 B) ⟨ht, ?_⟩
  have sz : (s.heap.push o).objs.size = s.heap.objs.size + 1 := Heap.size_push ..
  show _ ∧ _
  rw [sz]
  obtain ⟨en, hen⟩ : ∃ en : Obj, en = { cls := .type "enumerate", data := .fields #[.none, .bool false, .ref s.heap.objs.size, rawInt 0, .none, .none] } := ⟨_, rfl⟩
  rw [← hen]
  have he : ((s.heap.push o).push en).get? (s.heap.objs.size + 1) = some en := by
    have q := Heap.get?_push_size (s.heap.push o) (o := en) (by rw [hen]; rfl)
    rwa [sz] at q
  have he2 : IsEnum ((s.heap.push o).push en) (s.heap.objs.size + 1) s.heap.objs.size 0 .none := by
    rw [hen] at he ⊢
    exact he
  have hit : ((s.heap.push o).push en).get? s.heap.objs.size = some o := Heap.get?_push_of_some _ (Heap.get?_push_size _ fo)
  exact ⟨⟨en, he, by rw [hen]⟩, h _ he2 ⟨o, hit, by rw [ho], by rw [ho]; rfl⟩ (by rw [Heap.size_push, sz]) fun b ob x => Heap.get?_push_of_some _ (Heap.get?_push_of_some _ x)⟩
/-- the tuple at a, the items in new pairs -/
def IteT (K : PySem.W.Frag) (a : Addr) : It := ⟨fun i H => ∃ (xs : List V) (x : V), SqT K H a xs ∧ xs[i]? = some x, fun i H v H' => ∃ T x, v = .ref T ∧ H T = none ∧ H' = upd H T (.tup [.int (i : Nat), x]) ∧ ∀ xs, SqT K H a xs → xs[i]? = some x, fun i H => ∃ xs : List V, SqT K H a xs ∧ xs.length = i⟩
theorem turn_enumT {P : Program} {w : World} {K : PySem.W.Frag} {elts : List Expr} {kk : Nat} {tpos : Pos} {n a : Addr} (han : a < n) : Turn P w K (.Tuple elts kk tpos) (IteT K a) [n + 1, n] (n + 1) (fun i h => (∃ old, IsEnum h (n + 1) n ((i : Nat) : Int) old) ∧ h.IsTupleIter n a i) where
  mem := by simp
  obj := by
    rintro i h ⟨⟨old, he⟩, o, ho, hc, hd⟩ b hb
    have e : b = n + 1 ∨ b = n := by simpa using hb
    rcases e with rfl | rfl
    · exact ⟨_, he, fun v q => nomatch q⟩
    · exact ⟨o, ho, fun v q => by rw [hd] at q; cases q⟩
  keep := fun i h h' ⟨⟨old, he⟩, hi⟩ k => ⟨⟨old, k (n + 1) (by simp) _ he⟩, hi.at fun o q => k n (by simp) o q⟩
  self := fun A i s Q E st h => st.1.elim fun _ he => wpAny_pyIter_enum he h
  item := by
    rintro X rfl rfl rfl hc i pins s σ H E I hf ⟨⟨old, he⟩, hit⟩ ⟨xs, x, hq, hx⟩
    obtain ⟨us, rv, p, _⟩ := I.tuple hq
    obtain ⟨u, hu, ru⟩ := rv.get hx
    have hh : X.A.in1.handled = none := I.ok.hd hc
    have lt : i < us.toArray.size := by
      have := (List.getElem?_eq_some_iff.mp hx).1
      rw [List.size_toArray, ← rv.length]; exact this
    have l1 : n + 1 < s.heap.objs.size := Heap.lt_size he
    have l0 : n < s.heap.objs.size := Nat.lt_of_succ_lt l1
    refine wpAny_pyNext_enum_itemD (Draws.tuple hh n a (Nat.ne_of_lt han) us.toArray) he ⟨hit, p⟩ lt (Nat.succ_ne_self n) (fun m => ?_) fun u1 h' tk g1 ho st' hT sz kp => ?_
    · have m' : n + 1 = n ∨ n + 1 = a := by simpa using m
      rcases m' with z | z
      · exact Nat.succ_ne_self n z
      · exact Nat.lt_irrefl n (Nat.lt_trans (Nat.lt_succ_self n) (by have z : Nat.succ n = a := z; rw [z]; exact han))
    have eu : u1 = u := by
      have q : us.toArray[i]? = some u1 := g1
      rw [List.getElem?_toArray, hu] at q
      exact (Option.some.inj q).symm
    subst eu
    refine ⟨_, rfl, wpAny_letOwnedTupleGo_enum (s := { s with heap := h', toks := tk + 1 }) ho fun h'' he' sb => ?_⟩
    have up : ∀ c o, c ≠ n + 1 → h'.get? c = some o → h''.get? c = some o := fun c o ne q => (sb.2 c ne).trans q
    have new : ObjOk X.prog X.w (upd H s.heap.objs.size (.tup [.int (i : Nat), x])) h'' s.heap.objs.size (.tup [.int (i : Nat), x]) :=
      ⟨by show 2 ≤ sizeLine; decide, [.int i tk, u1], .cons ⟨_, rfl⟩ (.cons ru .nil), ⟨_, up _ _ (Nat.ne_of_gt l1) hT, rfl, _, rfl⟩⟩
    have J : Inv X pins σ (upd H s.heap.objs.size (.tup [.int (i : Nat), x])) { s with heap := h'', toks := tk + 1 } :=
      I.turnedNew (ch := [n + 1, n]) (fun b ob hb q => up b ob (fun z => hb (by simp [z])) (kp b ob (fun z => hb (by simp [z])) (fun z => hb (by simp [z])) q)) hf (Nat.le_refl _) new
    refine ⟨.ref s.heap.objs.size, _, J, rfl, ⟨_, x, rfl, I.hok.fresh (Nat.le_refl _), rfl, fun ys hy => by rw [I.tuple_inj hy hq]; exact hx⟩, ⟨⟨u1, ?_⟩, st'.1.at fun o q => up n o (Ne.symm (Nat.succ_ne_self n)) q⟩, fun b hb => ?_⟩
    · rw [show ((i + 1 : Nat) : Int) = (i : Int) + 1 from by omega]; exact he'
    · have e : b = n + 1 ∨ b = n := by simpa using hb
      rcases e with rfl | rfl
      · rw [upd_ne (Nat.ne_of_lt l1)]; exact (hf _ hb).1
      · rw [upd_ne (Nat.ne_of_lt l0)]; exact (hf _ hb).1
  done := by
    rintro X rfl rfl rfl hc i pins s σ H E I hf ⟨⟨old, he⟩, hit⟩ ⟨xs, hq, hx⟩
    obtain ⟨us, rv, p, _⟩ := I.tuple hq
    have hh : X.A.in1.handled = none := I.ok.hd hc
    obtain ⟨f0, f1, f2, f3, f4, f5⟩ := hf n (by simp)
    have e1 : us.toArray.size = xs.length := by rw [List.size_toArray, ← rv.length]
    have hi : i = us.toArray.size := by rw [e1, hx]
    refine wpAny_pyNext_enum_endD (i := (i : Int)) (Draws.tuple hh n a (Nat.ne_of_lt han) us.toArray) he ⟨by rw [← hi]; exact hit, p⟩ fun h' eb => ⟨rfl, I.turned (t' := s.toks) (fun b o hb q => eb b o hb q) f0 f1 f3 f4 f5⟩
def iEnumT (K : PySem.W.Frag) (ta : TA) : TI := fun σ H R => ta σ H fun vs H1 => ∃ a xs, vs = [.ref a] ∧ SqT K H1 a xs ∧ R (IteT K a) H1
theorem pi_enumT {X : Cx} {e : Expr} {ta : TA} {p pos tpos : Pos} {elts : List Expr} {kk : Nat} (hg : Gl X "enumerate") (hm : X.mg "enumerate" = none) (ha : PA X [e] ta) (hs : starEach [e] X.env = [(false, eval e X.env)] := by rfl) : PI X (.Tuple elts kk tpos) (.Call (.Name "enumerate" p) [e] [] pos) (iEnumT X.K ta) := by
  refine ⟨fun pins s σ H R I h => Call_ (ld_blt I hg hm boot_enumerate (PyProof.Rows.callWith_type1 (thn (ha.run pos pins s σ H _ I h) fun us s1 ⟨vs, H1, I1, r1, a, xs, ex, hq, q⟩ => ?_) hs rfl))⟩
  subst ex
  cases r1 with
  | cons r rr =>
    cases rr
    cases r
    obtain ⟨its, rv, tp, _⟩ := I1.tuple hq
    refine call_enumT tp fun h' he hit hsz hk => wpAny_pyIter_enum he ?_
    have I2 : Inv X pins σ H1 { s1 with heap := h' } := I1.kept (t' := s1.toks) hk
    have lt : a < s1.heap.objs.size := by
      obtain ⟨o, ho, _⟩ := tp
      exact Heap.lt_size ho
    refine ⟨s1.heap.objs.size + 1, [s1.heap.objs.size + 1, s1.heap.objs.size], _, _, H1, rfl, I2, turn_enumT lt, ⟨⟨.none, he⟩, hit⟩, fun b hb => ?_, q⟩
    have e : b = s1.heap.objs.size + 1 ∨ b = s1.heap.objs.size := by simpa using hb
    have hle : s1.heap.objs.size ≤ b := by
      rcases e with z | z
      · rw [z]; exact Nat.le_succ _
      · rw [z]; exact Nat.le_refl _
    exact I1.fpOk hle (I1.hok.fresh hle)
end XG
namespace DL
open PySem PySem.Spec PyProof.Rows L2 RZ RD RE XG
section
variable {K : PySem.W.Frag} {B : Bx} {Γ : Gam} {tr : TA}
theorem wk_enumT {M : List Addr} {H : Hp} {a : Addr} {xs : List V} {ds : List D} (h : SqT K (hid M H) a xs) (hd : DenAll K (hid M H) ds xs) : Wk K B M H (IteT K a) (enumD ds) := fun H1 g r => by
  have q1 : SqT K H1 a xs := SqT.sub (fun b o e => r b o e) h
  refine ⟨fun i d hi => ?_, ⟨xs, q1, by rw [enumD_len]; exact hd.length.symm⟩⟩
  obtain ⟨d', gd, rfl⟩ := enumD_get hi
  obtain ⟨v, hv, dv⟩ := hd.get gd
  refine ⟨⟨xs, v, q1, hv⟩, fun x H2 ⟨T, x1, ex, nT, eH, f1⟩ => ?_⟩
  have e1 := Option.some.inj ((f1 _ q1).symm.trans hv)
  subst ex e1 eH
  have r2 := g.new (o := .tup [.int (i : Nat), x1]) nT
  refine ⟨r2, .tup (.inl (.inl (hid_of (g.fresh nT) upd_same))) ?_⟩
  exact g.dens r2 (.cons (.int _) (.cons (Den.sub (rec_sub g r) _ _ dv) .nil))
theorem ei_enumT {PI : List D → Prop} (h : EvA K B tr Γ fun ds => ∃ xs, ds = [.tup xs] ∧ PI (enumD xs)) : EvI K B (iEnumT K tr) Γ PI := fun M σ H Rk g x q =>
  h M σ H _ g x fun vs H1 ds r ⟨xs, e, p⟩ dn => by
    subst e
    cases dn with
    | cons d1 d2 =>
      cases d2
      cases d1 with
      | tup a1 a2 => exact ⟨_, _, rfl, SqT.sub hid_sub a1, q _ H1 _ r p fun M' s1 s2 => wk_enumT (SqT.sub (fun b o e => hid_of (fun z => (s2 _ z).elim (hid_get e).1 fun z => by rw [(hid_get e).2] at z; cases z) (hid_get e).2) a1) (dens_up s2 a2)⟩
end
end DL

set_option maxHeartbeats 4000000
/-! tuples: any slice, tuple(t), t + u -/
namespace DL
open PySem PySem.Spec PyProof.Rows L2 RZ RD RE
section
variable {K : PySem.W.Frag} {B : Bx} {Γ : Gam} {ta tb : TE} {tr : TA} {P : D → Prop}
theorem cutD_all {ds : List D} {lo hi : Option Int} (h : HT.sIx ds.length 0 lo = 0 ∧ HT.sIx ds.length ds.length hi = ds.length) : cutD ds lo hi = ds := by
  unfold cutD
  rw [h.1, h.2, List.drop_zero, Nat.sub_zero, List.take_length]
/-- t[lo:hi] -/
theorem ev_slTA {tl th : TO} (h : Ev K B ta Γ fun d => ∃ ds, d = .tup ds ∧ EvO K B tl Γ fun lo => EvO K B th Γ fun hi => P (.tup (cutD ds lo hi))) : Ev K B (tSl (rSlA K) ta tl th) Γ P := fun M σ H Q g x q =>
  h M σ H _ g x fun v H1 d r ⟨ds, e, p⟩ dn => by
    subst e
    refine p M σ H1 _ (g.r r) (x.r g r) fun lo H2 r2 p2 => p2 M σ H2 _ ((g.r r).r r2) (x.r g (r.trans r2)) fun hi H3 r3 p3 => ?_
    have p3 : P (.tup (cutD ds lo hi)) := p3
    have g3 := ((g.r r).r r2).r r3
    have dn3 := (g.r r).den (r2.trans r3) dn
    cases dn3 with
    | @tup _ zs _ a1 a2 =>
      refine ⟨_, _, rfl, SqT.sub hid_sub a1, fun w => ?_, fun nw p hp => ?_⟩
      · rw [cutD_all (by rw [a2.length]; exact w)] at p3
        exact q _ _ _ (r.trans (r2.trans r3)) p3 (.tup a1 a2)
      · have r4 := g3.new (o := .tup (cutV zs lo hi)) hp
        refine q _ _ _ ((r.trans (r2.trans r3)).trans r4) p3 (.tup (.inl (.inl (hid_of (g3.fresh hp) upd_same))) (g3.dens r4 ?_))
        unfold cutD cutV
        rw [a2.length]
        exact (a2.drop _).take _
/-- tuple(t), t itself -/
theorem ev_tupleOfT (h : EvA K B tr Γ fun ds => ∃ es, ds = [.tup es] ∧ P (.tup es)) : Ev K B (tCB (fun xs H Q => ∃ p ys, xs = [.ref p] ∧ ((SqL K H p ys ∧ ∀ l, H l = none → Q (.ref l) (upd H l (.tup ys))) ∨ (SqT K H p ys ∧ Q (.ref p) H))) tr) Γ P := fun M σ H Q g x q =>
  h M σ H _ g x fun vs H1 ds r ⟨es, e, p⟩ dn => by
    subst e
    cases dn with
    | cons d1 d2 =>
      cases d2
      cases d1 with
      | tup a1 a2 => exact ⟨_, _, rfl, .inr ⟨SqT.sub hid_sub a1, q _ H1 _ r p (.tup a1 a2)⟩⟩
/-- t + u -/
theorem ev_catA (h : Ev K B ta Γ fun d => Ev K B tb Γ fun e => ∃ xs ys, d = .tup xs ∧ e = .tup ys ∧ xs.length + ys.length ≤ sizeLine ∧ P (.tup (xs ++ ys))) : Ev K B (tOp (rCatA K) ta tb) Γ P :=
  ev_op (h.mono fun d hd => hd.mono fun e ⟨xs, ys, e1, e2, hl, p⟩ => fun M H x y Q gd dx dy q => by
    subst e1 e2
    cases dx with
    | @tup _ us _ a1 a2 =>
      cases dy with
      | @tup _ vs _ b1 b2 =>
        refine ⟨_, _, us, vs, rfl, rfl, SqT.sub hid_sub a1, SqT.sub hid_sub b1, by rw [← a2.length, ← b2.length]; exact hl, fun z => ?_, fun _ z => ?_, fun _ _ l hl => ?_⟩
        · subst z
          cases a2
          exact q _ H _ gd.refl p (.tup b1 b2)
        · subst z
          cases b2
          rw [List.append_nil] at p
          exact q _ H _ gd.refl p (.tup a1 a2)
        · have r := gd.new (o := .tup (us ++ vs)) hl
          exact q _ _ _ r p (.tup (.inl (.inl (hid_of (gd.fresh hl) upd_same))) (gd.dens r (a2.app b2))))
end
end DL

set_option maxHeartbeats 4000000
/-! a def that is called in the suite and looks the exception's fields up -/
namespace XD
open PySem PySem.Spec PyProof.Rows L2 L2H LamX XE XA XB XC DL
theorem okZ {CX : CXT} {P : Program} {w : World} {K : PySem.W.Frag} {mg : Str → Option Value} {base : Heap} {x qual : Str} {st : Stmt} {f : Addr} {fd : FuncData} {N ps : List Str} {k : Nat} {sp : Addr → Value → Option Addr → Sp} (F : Fun K x qual st f fd) (S : FnScope N ps (defScope st)) (len : ∀ a cls d vs H Q E, sp a cls d vs H Q E → vs.length = ps.length)
    (hbody : ∀ (cdv : Value) (A : Around) (outer : List Env) (s : Shared) (H : Hp) (vs : List V) (Q : VK) (E : XK) (a : Addr) (oe : Obj) (cls : Value) (d : Option Addr), Zn cls d oe → (∃ vs, oe.data = .fields vs) → RoomH k (A.deeper (envOfC qual (defScope st) s.heap.objs.size f cdv)) → sp a cls d vs H Q E →
      ∃ t, PSs (cxH CX P w K mg base N qual (defScope st) f cdv A outer s H E (a, oe)) (defBody st) t ∧ t { nx := fun _ H' => Q .non H', rt := Q } (L2.start N vs) H) : FnZ P w K mg base CX (k + 1) f fd ps sp := by
  obtain ⟨oc, od, kV, doc, pm, an, cdv, ct, osl, rfl, lk, hcd⟩ := F.ex
  exact fn_ofZ lk hcd S len fun A outer s H vs Q E a oe cls d => hbody cdv A outer s H vs Q E a oe cls d
theorem SubH.refl {H : Hp} : SubH H H := fun _ _ e => e
theorem SubH.trans {H H1 H2 : Hp} (x : SubH H H1) (y : SubH H1 H2) : SubH H H2 := fun b o e => y b o (x b o e)
theorem SubH.new {H : Hp} {p : Addr} {o : HO} (h : H p = none) : SubH H (upd H p o) := fun b u e => by rw [upd_ne (ne_of_none e h)]; exact e
/-- the exception at hand: its class may be asked, its dict is fs -/
structure Xat (K : PySem.W.Frag) (a : Addr) (cls : Value) (d : Option Addr) (fs : List (Str × V)) (H : Hp) : Prop where
  ex : ∃ C dd : Addr, cls = .ref C ∧ XfC K C ∧ (∀ f, f ∈ fieldN → PySem.W.findIn K (.ref C) f = some none) ∧ d = some dd ∧ H dd = some (.xd fs)
theorem Xat.sub {K : PySem.W.Frag} {a : Addr} {cls : Value} {d : Option Addr} {fs : List (Str × V)} {H H1 : Hp} (x : Xat K a cls d fs H) (s : SubH H H1) : Xat K a cls d fs H1 := by
  obtain ⟨C, dd, e1, e2, e3, e4, e5⟩ := x.ex
  exact ⟨C, dd, e1, e2, e3, e4, s _ _ e5⟩
theorem t_fld {K : PySem.W.Frag} {a : Addr} {cls : Value} {d : Option Addr} {fs : List (Str × V)} {H : Hp} {σ : L2.St} {f : Str} {v : V} {Q : VK} (x : Xat K a cls d fs H) (h0 : σ[0]? = some (some (.ref a))) (hf : f ∈ fieldN) (hv : fs.lookup f = some v) (q : Q v H) : tXfA K a cls d f (tVar 0) σ H Q := by
  obtain ⟨C, dd, e1, e2, e3, e4, e5⟩ := x.ex
  exact ⟨_, h0, rfl, C, e1, e2, e3 f hf, dd, fs, v, e4, e5, hv, q⟩
def tLits : List Str → TA
  | [] => tNil
  | z :: zs => tCons (tC (.str z)) (tLits zs)
theorem lits_run {σ : L2.St} {H : Hp} : ∀ {zs : List Str} {Q : List V → Hp → Prop}, Q (zs.map V.str) H → tLits zs σ H Q
  | [], _, q => q
  | z :: zs, Q, q => lits_run (zs := zs) (Q := fun vs H' => Q (.str z :: vs) H') q
/-- e.code in [..] -/
theorem t_inL {K : PySem.W.Frag} {a : Addr} {cls : Value} {d : Option Addr} {fs : List (Str × V)} {H : Hp} {σ : L2.St} {z : Str} {Q : VK} (zs : List Str) (x : Xat K a cls d fs H) (h0 : σ[0]? = some (some (.ref a))) (hv : fs.lookup ("code" : Str) = some (.str z)) (hz : zs.length ≤ 100)
    (q : ∀ H1, SubH H H1 → Q (.bl (inS z zs)) H1) : tOp (rIn K false) (tXfA K a cls d "code" (tVar 0)) (tLst (tLits zs)) σ H Q := by
  refine t_fld x h0 (by decide) hv (lits_run ⟨by rw [List.length_map]; exact sz2 (by omega), fun p hp => ?_⟩)
  refine ⟨p, _, rfl, .inl (SqL.of upd_same), rfl, ?_, ?_⟩
  · rw [List.all_map]
    exact List.all_eq_true.mpr fun _ _ => rfl
  · rw [if_neg Bool.false_ne_true, inS_ok]
    exact q _ (SubH.new hp)
/-- e.code == '..' -/
theorem t_eqC {K : PySem.W.Frag} {a : Addr} {cls : Value} {d : Option Addr} {fs : List (Str × V)} {H : Hp} {σ : L2.St} {z z' : Str} {Q : VK} (x : Xat K a cls d fs H) (h0 : σ[0]? = some (some (.ref a))) (hv : fs.lookup ("code" : Str) = some (.str z))
    (q : Q (.bl (decide (z = z'))) H) : tOp rEq (tXfA K a cls d "code" (tVar 0)) (tC (.str z')) σ H Q := by
  refine t_fld x h0 (by decide) hv ?_
  refine (⟨rfl, ?_⟩ : rEq (V.str z) (V.str z') H Q)
  rw [show (decide (V.str z = V.str z')) = decide (z = z') from decide_eq_decide.mpr ⟨fun e => by cases e; rfl, fun e => by rw [e]⟩]
  exact q
/-- (e.f, e.g) -/
theorem t_two {K : PySem.W.Frag} {a : Addr} {cls : Value} {d : Option Addr} {fs : List (Str × V)} {H : Hp} {σ : L2.St} {f g : Str} {v u : V} {Q : VK} (x : Xat K a cls d fs H) (h0 : σ[0]? = some (some (.ref a))) (hf : f ∈ fieldN) (hg : g ∈ fieldN) (hv : fs.lookup f = some v) (hu : fs.lookup g = some u)
    (q : ∀ p, H p = none → Q (.ref p) (upd H p (.tup [v, u]))) : tTup (tCons (tXfA K a cls d f (tVar 0)) (tCons (tXfA K a cls d g (tVar 0)) tNil)) σ H Q := by
  show tXfA K a cls d f (tVar 0) σ H fun x H1 => tXfA K a cls d g (tVar 0) σ H1 fun y H2 => 1 + 1 ≤ sizeLine ∧ ∀ p, H2 p = none → Q (.ref p) (upd H2 p (.tup [x, y]))
  refine t_fld x h0 hf hv ?_
  refine t_fld x h0 hg hu ?_
  exact ⟨sz2 (Nat.le_of_ble_eq_true rfl), q⟩
end XD

set_option maxHeartbeats 4000000
/-! a law that makes lambdas: its def, its promise, its first box -/
namespace DL
open PySem PySem.Spec PyProof.Rows L2 LamX RZ RE TL XE XA XB XC XD RD
theorem okT {P : Program} {w : World} {K : PySem.W.Frag} {mg : Str → Option Value} {base : Heap} {x qual : Str} {st : Stmt} {f c : Addr} {fd : FuncData} {N ps : List Str} {k : Nat} {sp : Sp} (F : Fun K x qual st f fd) (hc : fd.code = .ref c) (S : FnScope N ps (defScope st)) (len : ∀ vs H Q E, sp vs H Q E → vs.length = ps.length)
    (hbody : ∀ (A : Around) (outer : List Env) (s : Shared) (H : Hp) (vs : List V) (Q : VK) (E : XK), Room k (A.deeper (envOfC qual (defScope st) s.heap.objs.size f (.ref c))) → sp vs H Q E →
      ∃ t, PSs (cxOf CX0 P w K mg base N qual (defScope st) f (.ref c) A outer s H E).nox (defBody st) t ∧ t { nx := fun _ H' => Q .non H', rt := Q } (L2.start N vs) H) : FnOk P w K mg base CX0 (k + 1) f fd ps sp := by
  obtain ⟨oc, od, kV, doc, pm, an, cdv, ct, osl, rfl, lk, hcd⟩ := F.ex
  have hc : cdv = .ref c := hc
  subst hc
  refine fn_of lk hcd S len fun A outer s H vs Q E hr hsp => ?_
  obtain ⟨t, h, q⟩ := hbody A outer s H vs Q E hr hsp
  exact ⟨t, h.nox, q⟩
/-- the law's promise, its table empty -/
def spLawT (K : PySem.W.Frag) (t : Addr) : Sp := fun vs H Q _ => ∃ (a : Addr) (ns : List Int), vs = [.ref a] ∧ SqL K H a (ns.map V.int) ∧ ns.length ≤ 63 ∧ H t = some (.tbl #[]) ∧ ∀ H', Q (.bl true) H'
variable {K : PySem.W.Frag}
theorem tabS0 {H : Hp} {t : Addr} {q : Str} (e : H t = some (.tbl #[])) : TabS H t q := ⟨_, e, by
  show PySem.TriplesOk ([] : List Value)
  exact trivial, fun pos cv h => by
  have h : PySem.codeAmong pos ([] : List Value) = some cv := h
  cases h⟩
theorem to_dataT {b l t : Addr} {q : Str} {H : Hp} {σ : L2.St} {Γ : Gam} {ts : TS} {Q : VK} (hb : BoxOk K { b := b, l := l, t := b, q := Str.empty } H) (ht : H t = some (.tbl #[])) (x : EnvOk K [b, l, t] H σ Γ) (h : Rn K { b := b, l := l, t := t, q := q } ts Γ { nx := fun _ => False, rt := fun d => d = .bl true }) (q : ∀ H', Q (.bl true) H') :
    ts { nx := fun _ H' => Q .non H', rt := Q } σ H := by
  obtain ⟨ns, i, r, m, c, h1, n1, h2, h3⟩ := id hb
  refine h [b, l, t] σ H _ ⟨by simp, by simp, by simp, ⟨ns, i, r, m, c, h1, n1, h2, h3⟩, .inr (tabS0 ht), fun a ha => ?_, fun _ _ z => (by cases z), fun _ z => (by cases z), fun _ _ _ _ _ _ _ _ _ _ _ _ _ z => False.elim z⟩ x (fun _ _ _ _ p _ => False.elim p) (fun v H' d _ e dn => ?_) (fun _ _ _ _ p => False.elim p) fun _ _ _ _ p => False.elim p
  · rcases List.mem_cons.mp ha with e | ha
    · rw [e]; exact there_of h1 fun _ z => by cases z
    rcases List.mem_cons.mp ha with e | ha
    · rw [e]; exact there_of h2 fun _ z => by cases z
    · have e : a = t := by simpa using ha
      rw [e]; exact there_of ht fun _ z => by cases z
  · subst e
    cases dn
    exact q H'
end DL
namespace DL
open PySem PySem.Spec PyProof.Rows L2
section
variable {K : PySem.W.Frag} {B : Bx} {Γ : Gam} {P : Pst} {t u : TS}
/-- a statement, told by what it leaves, and the rest -/
theorem rn_mid (mid : Gam → Prop) (h : Rn K B t Γ { P with nx := mid }) (h2 : ∀ Γ', mid Γ' → Rn K B u Γ' P) : Rn K B (tSeq t u) Γ P := rn_seq fun M σ H E g x k1 k2 k3 k4 =>
  h M σ H E g x (fun σ' H' Γ' r p x' => k1 σ' H' Γ' r (h2 Γ' p) x') k2 k3 k4
end
end DL

set_option maxHeartbeats 4000000
/-! classes whose __init__ may raise -/
namespace XK
open PySem PySem.Spec PyProof.Rows L2 XE XA XB XC DL
theorem passTk {X : Cx} {W : WX} {E : XK} (tk : L2N.Takes X W) (h : ∀ cls d σ H, E cls d H → W cls d σ H) : Passes (L2N.CX X.prog X.w) X E := fun pins σ H s e s' I c => tk e s' (L2N.XE.of_call I (fun cls d H' z => h cls d σ H' z) c)
theorem okDN {P : Program} {w : World} {K : PySem.W.Frag} {mg : Str → Option Value} {base : Heap} {x qual : Str} {params : Arguments} {body : List Stmt} {scope : Scope} {dvs : List V} {kws : List (Str × V)} {f : Addr} {fd : FuncData} {N ps : List Str} {k : Nat} {sp : Sp}
    (F : FunD K x qual params body scope dvs kws f fd) (S : FnScope N ps scope) (len : ∀ vs H Q E, sp vs H Q E → vs.length = ps.length)
    (hbody : ∀ (cdv : Value) (A : Around) (outer : List Env) (s : Shared) (H : Hp) (vs : List V) (Q : VK) (E : XK), Room k (A.deeper (envOfC qual scope s.heap.objs.size f cdv)) → sp vs H Q E →
      ∃ t, PSs (cxOf (L2N.CX P w) P w K mg base N qual scope f cdv A outer s H E) body t ∧ t { nx := fun _ H' => Q .non H', rt := Q } (L2.start N vs) H) : FnOk P w K mg base (L2N.CX P w) (k + 1) f fd ps sp := by
  obtain ⟨oc, od, dV, kV, doc, pm, an, cdv, ct, osl, rfl, lk, hcd, _, _⟩ := F.ex
  exact fn_of lk hcd S len fun A outer s H vs Q E hr hsp => hbody cdv A outer s H vs Q E hr hsp
end XK
namespace DL
open PySem PySem.Spec PyProof.Rows L2 LamX RZ RD RE TL XE XA XB XC XD XK
/-- the promise of an __init__ that may raise -/
def SpNE (K : PySem.W.Frag) (n : Nat) (ns : List Str) (F : Bx → List D → (List D → Prop) → (Addr → List Str → List D → Prop) → Prop) : Sp := fun vs H Q E => ∃ (B : Bx) (M : List Addr) (a C dx : Addr) (us : List V) (ds : List D) (P : List D → Prop) (PX : Addr → List Str → List D → Prop), vs = .ref a :: us ∧ us.length = n ∧
  Good K B M H ∧ a ∈ M ∧ (B.H0 a = none ∧ a ∉ B.M0) ∧ H a = some (.ins C dx []) ∧ Cls K C ∧ (∀ f, f ∈ ns → NoAttr K C f) ∧ DenAll K (hid M H) ds us ∧ F B ds P PX ∧
  (∀ H' ws es, Rx K B H H' a → H' a = some (.ins C dx (ns.zip ws)) → ns.length = ws.length → DenAll K (hid M H') es ws → P es → Q .non H') ∧
  ∀ H' C' d' ns' us' es', Rx K B H H' a → (d' = a ∨ H d' = none) → H' d' = some (.xd (ns'.zip us')) → ns'.length = us'.length → DenAll K (hid (M.filter fun b => decide (b ≠ a)) H') es' us' → PX C' ns' es' → E (.ref C') (some d') H'
section
variable {K : PySem.W.Frag} {B : Bx} {M : List Addr} {H H1 : Hp} {Γ : Gam} {tr : TA} {n : Nat} {ns : List Str} {t : TS} {F : Bx → List D → (List D → Prop) → (Addr → List Str → List D → Prop) → Prop}
theorem run_initNE {N : List Str} {vs : List V} {Q : VK} {E : XK} (z : SpNE K n ns F vs H Q E)
    (h : ∀ (B : Bx) (a C : Addr) (ds : List D) (P : List D → Prop) (PX : Addr → List Str → List D → Prop) (B' : Bx), Box' B B' → B'.E = E → B'.PX = PX → ds.length = n → Cls K C → (∀ f, f ∈ ns → NoAttr K C f) → F B ds P PX →
      RnI K B' t a C (startG N.length (.obj a :: ds)) [] [] fun _ ns' es => ns' = ns ∧ P es) :
    t { nx := fun _ H' => Q .non H', rt := Q } (L2.start N vs) H := by
  obtain ⟨B, M, a, C, dx, us, ds, P, PX, rfl, hl, g, ia, za, ea, c, no, dn, p, q, qx⟩ := z
  have nm : a ∉ M.filter fun b => decide (b ≠ a) := fun m => of_decide_eq_true (List.mem_filter.mp m).2 rfl
  have xk : XkOk K { B with H0 := fun b => if b = a then none else H b, M0 := M.filter fun b => decide (b ≠ a), E := E, PX := PX } := fun H' C' d' ns' us' es' bx tb fr n0 e ln dn' px => by
    refine qx H' C' d' ns' us' es' ⟨bx, fun b o hb na ne => fr b o (by show (if b = a then none else H b) = _; rw [if_neg ne]; exact hb) ⟨na.b, na.t⟩, fun _ => tb⟩ ?_ e ln dn' px
    have n0 : (if d' = a then none else H d') = none := n0
    by_cases hd : d' = a
    · exact .inl hd
    · rw [if_neg hd] at n0
      exact .inr n0
  have g' : Good K { B with H0 := fun b => if b = a then none else H b, M0 := M.filter fun b => decide (b ≠ a), E := E, PX := PX } M H := ⟨g.mem, g.meml, g.memt, g.box, g.tb, g.there, fun b o e _ => (by
      have e : (if b = a then none else H b) = some o := e
      by_cases hb : b = a
      · rw [if_pos hb] at e; cases e
      · rw [if_neg hb] at e; exact e), fun b m => (List.mem_filter.mp m).1, xk⟩
  refine h B a C ds P PX { B with H0 := fun b => if b = a then none else H b, M0 := M.filter fun b => decide (b ≠ a), E := E, PX := PX } ⟨rfl, rfl, rfl, rfl⟩ rfl rfl (by rw [dn.length]; exact hl) c no p M _ H _ dx ⟨g', ia, ⟨if_pos rfl, nm⟩, [], ea, rfl, .nil⟩ (startG_ok (.cons (.obj a) dn)) fun σ' H' Γ' ns' ds' k z' x' ⟨e1, p'⟩ => ?_
  subst e1
  obtain ⟨ws, ea', ln, dw⟩ := z'.ea
  exact q H' ws ds' ⟨k.box, fun b o hb na ne => k.fr b o hb ⟨na.b, na.t⟩ ne, k.tb⟩ ea' ln dw p'
/-- what a new instance's __init__ is handed -/
theorem made_ne {C : Addr} {vs : List V} {ds : List D} {Q : VK} {E : XK} {P : D → Prop} {PX : Addr → List Str → List D → Prop} {a dx : Addr} (c : Cls K C) (no : ∀ f, f ∈ ns → NoAttr K C f) (g1 : Good K B M H1) (dn : DenAll K (hid M H1) ds vs) (hl : ds.length = n) (p : F B ds (fun es => P (.ins C ns es)) PX)
    (ha : H1 a = none) (hd : H1 dx = none) (ne : dx ≠ a) (q : ∀ v H' d, R K B H1 H' → P d → Den K (hid M H') d v → Q v H')
    (qx : ∀ H' C' d' ns' us' es', R K B H1 H' → H1 d' = none → H' d' = some (.xd (ns'.zip us')) → ns'.length = us'.length → DenAll K (hid M H') es' us' → PX C' ns' es' → E (.ref C') (some d') H') :
    SpNE K n ns F (.ref a :: vs) (upd (upd H1 dx (.own a)) a (.ins C dx [])) (fun v H3 => v = .non ∧ Q (.ref a) H3) E := by
  have r1 : R K B H1 (upd H1 dx (.own a)) := g1.new hd
  have g2 := g1.r r1
  have ha2 : (upd H1 dx (.own a)) a = none := by rw [upd_ne (Ne.symm ne)]; exact ha
  refine ⟨B, a :: M, a, C, dx, _, _, _, PX, rfl, by rw [← dn.length]; exact hl, g2.own ha2, List.mem_cons_self, ⟨g2.h0 ha2, g2.m0 ha2⟩, upd_same, c, no, DenAll.sub (hid_own ha2) _ _ (g1.dens r1 dn), p, fun H' ws fs k ea ln de pe => ⟨rfl, ?_⟩, fun H' C' d' ns' us' es' k n0 e ln de px => ?_⟩
  · refine q _ H' (.ins C ns fs) (r1.trans ((g2.new ha2).x.trans k |>.new ha2)) pe ?_
    exact .ins (hid_of (g1.fresh ha) ea) ln (DenAll.sub hid_less _ _ de)
  · refine qx H' C' d' ns' us' es' (r1.trans ((g2.new ha2).x.trans k |>.new ha2)) ?_ e ln (DenAll.sub (fun b o hb => ?_) _ _ de) px
    · rcases n0 with n0 | n0
      · rw [n0]; exact ha
      · by_cases h1 : d' = a
        · rw [h1]; exact ha
        · rw [upd_ne h1] at n0
          by_cases h2 : d' = dx
          · rw [h2]; exact hd
          · rw [upd_ne h2] at n0
            exact n0
    · obtain ⟨nb, hb⟩ := hid_get hb
      refine hid_of (fun m => nb (List.mem_filter.mpr ⟨List.mem_cons_of_mem _ m, decide_eq_true fun z => ?_⟩)) hb
      rw [z] at m
      exact g1.fresh ha m
/-- C(.., k = v, ..); what its __init__ raises leaves the def -/
theorem ev_mkKE {C : Addr} {m : Nat} {E : XK} {P : D → Prop} {tk : TA} {gV : List V → List V → List V} {N' : Nat} (hE : E = B.E) (hgV : ∀ (x : V) (vs zs : List V), vs.length = n → zs.length = m → gV (x :: vs) zs = x :: (vs ++ zs))
    (c : Cls K C) (no : ∀ f, f ∈ ns → NoAttr K C f) (h : EvA K B tr Γ fun ds => ds.length = n ∧ EvA K B tk Γ fun es => es.length = m ∧ ds.length + es.length = N' ∧ F B (ds ++ es) (fun fs => P (.ins C ns fs)) B.PX) : Ev K B (tMakeK C n m (SpNE K N' ns F) gV E tr tk) Γ P := fun M σ H Q g x q =>
  h M σ H _ g x fun vs H0 ds r0 ⟨hl, p0⟩ dn0 => p0 M σ H0 _ (g.r r0) (x.r g r0) fun zs H1 es r01 ⟨hl2, hN, p⟩ dn1 => by
    subst hE
    have r := r0.trans r01
    have g1 := g.r r
    have dn := ((g.r r0).dens r01 dn0).app dn1
    refine ⟨by rw [← dn0.length]; exact hl, by rw [← dn1.length]; exact hl2, fun a dx ha hd ne => ?_⟩
    rw [hgV _ _ _ (by rw [← dn0.length]; exact hl) (by rw [← dn1.length]; exact hl2)]
    exact made_ne c no g1 dn (by rw [List.length_append]; exact hN) p ha hd ne (fun v H' d r2 => q v H' d (r.trans r2)) fun H' C' d' ns' us' es' r2 n0 e ln de px => g1.raise r2 n0 e ln de px
theorem ev_mkKE0 {C : Addr} {m : Nat} {E : XK} {P : D → Prop} {tk : TA} {gV : List V → List V → List V} {N' : Nat} (hgV : ∀ (x : V) (vs zs : List V), vs.length = n → zs.length = m → gV (x :: vs) zs = x :: (vs ++ zs))
    (c : Cls K C) (no : ∀ f, f ∈ ns → NoAttr K C f) (h : EvA K B tr Γ fun ds => ds.length = n ∧ EvA K B tk Γ fun es => es.length = m ∧ ds.length + es.length = N' ∧ F B (ds ++ es) (fun fs => P (.ins C ns fs)) fun _ _ _ => False) : Ev K B (tMakeK C n m (SpNE K N' ns F) gV E tr tk) Γ P := fun M σ H Q g x q =>
  h M σ H _ g x fun vs H0 ds r0 ⟨hl, p0⟩ dn0 => p0 M σ H0 _ (g.r r0) (x.r g r0) fun zs H1 es r01 ⟨hl2, hN, p⟩ dn1 => by
    have r := r0.trans r01
    have g1 := g.r r
    have dn := ((g.r r0).dens r01 dn0).app dn1
    refine ⟨by rw [← dn0.length]; exact hl, by rw [← dn1.length]; exact hl2, fun a dx ha hd ne => ?_⟩
    rw [hgV _ _ _ (by rw [← dn0.length]; exact hl) (by rw [← dn1.length]; exact hl2)]
    exact made_ne c no g1 dn (by rw [List.length_append]; exact hN) p ha hd ne (fun v H' d r2 => q v H' d (r.trans r2)) fun _ _ _ _ _ _ _ _ _ _ _ px => px.elim
/-- C(..) -/
theorem ev_mkE {C : Addr} {E : XK} {P : D → Prop} {dvs : List V} {dds : List D} (hdd : ∀ H, DenAll K H dds dvs) (hE : E = B.E) (c : Cls K C) (no : ∀ f, f ∈ ns → NoAttr K C f) (h : EvA K B tr Γ fun ds => (ds ++ dds).length = n ∧ F B (ds ++ dds) (fun fs => P (.ins C ns fs)) B.PX) :
    Ev K B (tMake C (SpNE K n ns F) dvs E tr) Γ P := fun M σ H Q g x q =>
  h M σ H _ g x fun vs H1 ds r ⟨hl, p⟩ dn a dx ha hd ne => by
    subst hE
    have g1 := g.r r
    exact made_ne c no g1 (dn.app (hdd (hid M H1))) hl p ha hd ne (fun v H' d r2 => q v H' d (r.trans r2)) fun H' C' d' ns' us' es' r2 n0 e ln de px => g1.raise r2 n0 e ln de px
theorem ev_mkE0 {C : Addr} {E : XK} {P : D → Prop} {dvs : List V} {dds : List D} (hdd : ∀ H, DenAll K H dds dvs) (c : Cls K C) (no : ∀ f, f ∈ ns → NoAttr K C f) (h : EvA K B tr Γ fun ds => (ds ++ dds).length = n ∧ F B (ds ++ dds) (fun fs => P (.ins C ns fs)) fun _ _ _ => False) :
    Ev K B (tMake C (SpNE K n ns F) dvs E tr) Γ P := fun M σ H Q g x q =>
  h M σ H _ g x fun vs H1 ds r ⟨hl, p⟩ dn a dx ha hd ne => by
    have g1 := g.r r
    exact made_ne c no g1 (dn.app (hdd (hid M H1))) hl p ha hd ne (fun v H' d r2 => q v H' d (r.trans r2)) fun _ _ _ _ _ _ _ _ _ _ _ px => px.elim
end
end DL

set_option maxHeartbeats 4000000
/-! lambdas as values: made, kept in lists, called from defs -/
namespace XL
open PySem PySem.Spec PyProof.Rows L2 LamX XA XB
/-- known to the object, whatever it is -/
abbrev knw (o : Obj) : HO := .frz o (.ext fun _ => True)
abbrev Cels := List (Addr × Obj)
def trk (cl : Cels) (H : Hp) : Hp := fun b => match cl.lookup b with
  | some o => some (knw o)
  | none => H b
def utr (cl : Cels) (H : Hp) : Hp := fun b => match cl.lookup b with
  | some _ => none
  | none => H b
section
variable {cl : Cels} {H H' : Hp} {b : Addr} {o : Obj} {P : Program} {w : World} {h h' B : Heap} {fs : List Addr}
theorem trk_in (e : cl.lookup b = some o) : trk cl H b = some (knw o) := by unfold trk; rw [e]
theorem trk_out (e : cl.lookup b = none) : trk cl H b = H b := by unfold trk; rw [e]
theorem utr_in (e : cl.lookup b = some o) : utr cl H b = none := by unfold utr; rw [e]
theorem utr_out (e : cl.lookup b = none) : utr cl H b = H b := by unfold utr; rw [e]
theorem cel_or (cl : Cels) (b : Addr) : (∃ o, cl.lookup b = some o) ∨ cl.lookup b = none := by
  cases cl.lookup b with
  | none => exact .inr rfl
  | some o => exact .inl ⟨o, rfl⟩
/-- all of cl is known -/
def Cov (cl : Cels) (H : Hp) : Prop := ∀ b o, cl.lookup b = some o → H b = some (knw o)
/-- none of cl is tracked -/
def Offn (cl : Cels) (H : Hp) : Prop := ∀ b o, cl.lookup b = some o → H b = none
/-- .., all of it stands in the heap -/
def Off (cl : Cels) (H : Hp) (h : Heap) : Prop := ∀ b o, cl.lookup b = some o → H b = none ∧ h.get? b = some o
theorem Cov.out (c : Cov cl H) {u : HO} (e : H b = some u) (n : ∀ ob, u ≠ knw ob) : cl.lookup b = none := by
  rcases cel_or cl b with ⟨o, z⟩ | z
  · rw [c b o z] at e
    exact absurd (Option.some.inj e).symm (n o)
  · exact z
theorem Off.out (c : Off cl H h) {u : HO} (e : H b = some u) : cl.lookup b = none := by
  rcases cel_or cl b with ⟨o, z⟩ | z
  · rw [(c b o z).1] at e; cases e
  · exact z
theorem utr_some {u : HO} (e : utr cl H b = some u) : cl.lookup b = none ∧ H b = some u := by
  rcases cel_or cl b with ⟨o, z⟩ | z
  · rw [utr_in z] at e; cases e
  · rw [utr_out z] at e; exact ⟨z, e⟩
theorem utr_none (c : H b = none) : utr cl H b = none := by
  rcases cel_or cl b with ⟨o, z⟩ | z
  · exact utr_in z
  · rw [utr_out z]; exact c
theorem Cov.utr_keep (c : Cov cl H) {u : HO} (e : H b = some u) (n : ∀ ob, u ≠ knw ob) : utr cl H b = some u := by rw [utr_out (c.out e n)]; exact e
theorem hok_utr (x : HOk P w H h) (c : Cov cl H) : HOk P w (utr cl H) h := fun b o e => by
  obtain ⟨_, e⟩ := utr_some e
  exact (x b o e).stay (fun _ _ _ q => q) (fun d q => c.utr_keep q fun _ z => by cases z) fun d xs q => c.utr_keep q fun _ z => by cases z
theorem hok_trk (x : HOk P w H h) (c : Off cl H h) : HOk P w (trk cl H) h := fun b o e => by
  rcases cel_or cl b with ⟨ob, z⟩ | z
  · rw [trk_in z] at e
    cases e
    exact ⟨(c b ob z).2, trivial, ⟨ob, (c b ob z).2⟩, fun _ _ _ _ => trivial⟩
  · rw [trk_out z] at e
    exact (x b o e).stay (fun _ _ _ q => q) (fun d q => by rw [trk_out (c.out q)]; exact q) fun d xs q => by rw [trk_out (c.out q)]; exact q
/-- what was known of a callee without cl, with cl -/
theorem un_in (u : Un fs [] (utr cl H) H' h h') (c : Cov cl H) : Un fs [] H (trk cl H') h h' where
  keep := fun b o e n hb hx => u.keep b o e (utr_none n) hb hx
  slot := fun b o e n hb hx => u.slot b o e (utr_none n) hb hx
  free := fun b o e n hx => by
    rw [trk_out]
    · exact u.free b o e (utr_none n) hx
    · rcases cel_or cl b with ⟨ob, z⟩ | z
      · rw [c b ob z] at n; cases n
      · exact z
  there := u.there
  tups := fun b xs e => by
    rw [trk_out (c.out e fun _ z => by cases z)]
    exact u.tups b xs (c.utr_keep e fun _ z => by cases z)
  frzs := fun b ob v e => by
    rcases cel_or cl b with ⟨ob2, z⟩ | z
    · rw [trk_in z, ← c b ob2 z]; exact e
    · rw [trk_out z]
      exact u.frzs b ob v (by rw [utr_out z]; exact e)
  tbls := fun b ps e => by
    rw [trk_out (c.out e fun _ z => by cases z)]
    exact u.tbls b ps (c.utr_keep e fun _ z => by cases z)
theorem ub_in (u : UB fs (utr cl H) H' h B h') (c : Cov cl H) : UB fs H (trk cl H') h B h' where
  keep := fun b o e n hb => u.keep b o e (utr_none n) hb
  slot := u.slot
  free := fun b o e n => by
    rw [trk_out]
    · exact u.free b o e (utr_none n)
    · rcases cel_or cl b with ⟨ob, z⟩ | z
      · rw [c b ob z] at n; cases n
      · exact z
  there := u.there
  tups := fun b xs e => by
    rw [trk_out (c.out e fun _ z => by cases z)]
    exact u.tups b xs (c.utr_keep e fun _ z => by cases z)
  frzs := fun b ob v e => by
    rcases cel_or cl b with ⟨ob2, z⟩ | z
    · rw [trk_in z, ← c b ob2 z]; exact e
    · rw [trk_out z]
      exact u.frzs b ob v (by rw [utr_out z]; exact e)
  tbls := fun b ps e => by
    rw [trk_out (c.out e fun _ z => by cases z)]
    exact u.tbls b ps (c.utr_keep e fun _ z => by cases z)
/-- what was known of a callee with cl, without it -/
theorem un_out (u : Un fs [] (trk cl H) H' h h') (c : Off cl H h) (ok : HOk P w H' h') : Un fs [] H (utr cl H') h h' where
  keep := fun b o e n hb hx => by
    rcases cel_or cl b with ⟨ob, z⟩ | z
    · have e2 := (c b ob z).2
      rw [e] at e2
      cases e2
      exact (ok b _ (u.frzs b o _ (trk_in z))).1
    · exact u.keep b o e (by rw [trk_out z]; exact n) hb hx
  slot := fun b o e n hb hx => by
    rcases cel_or cl b with ⟨ob, z⟩ | z
    · have e2 := (c b ob z).2
      rw [e] at e2
      cases e2
      exact ⟨o.slots, (ok b _ (u.frzs b o _ (trk_in z))).1⟩
    · exact u.slot b o e (by rw [trk_out z]; exact n) hb hx
  free := fun b o e n hx => by
    rcases cel_or cl b with ⟨ob, z⟩ | z
    · exact utr_in z
    · rw [utr_out z]
      exact u.free b o e (by rw [trk_out z]; exact n) hx
  there := u.there
  tups := fun b xs e => by
    rw [utr_out (c.out e)]
    exact u.tups b xs (by rw [trk_out (c.out e)]; exact e)
  frzs := fun b ob v e => by
    rw [utr_out (c.out e)]
    exact u.frzs b ob v (by rw [trk_out (c.out e)]; exact e)
  tbls := fun b ps e => by
    rw [utr_out (c.out e)]
    exact u.tbls b ps (by rw [trk_out (c.out e)]; exact e)
end
/-! ### the function object of a lambda -/
abbrev lamFd (q : Str) (params : Arguments) (body : Expr) (scope : Scope) (clos : List (Str × Addr)) (dV pm cdv ctv : Value) : FuncData :=
  ⟨"<lambda>", q, params, .expr body, scope, mainGlobals, clos, dV, .none, .none, pm, none, cdv, ctv, builtinsNs⟩
abbrev lamOb (q : Str) (params : Arguments) (body : Expr) (scope : Scope) (clos : List (Str × Addr)) (dV pm cdv ctv : Value) : Obj := { cls := .type "function", data := .func (lamFd q params body scope clos dV pm cdv ctv) }
section
variable {M : Model} {A : Around} {E Q : Value → Shared → Prop} {s : Shared} {q : Str} {params : Arguments} {body : Expr} {scope : Scope} {env : Env} {c P : Addr} {ps : Array Value} {pos : Pos} {n : Nat} {mg : Str → Option Value} {clos : List (Str × Addr)} {dV : Value}
/-- a lambda is made, its defaults at hand: its code object is new, or stands in the table -/
theorem lamTail (hcl : closureFor scope env = pure clos) (hge : env.globals = mainGlobals) (hg : s.heap.Ns mainGlobals mg) (hcode : env.code = .ref c) (C : PySem.W.CodeHd s.heap c P) (hP : s.heap.get? P = some (PySem.W.tabObj ps)) (ht : TriplesOk ps.toList) (hgP : mainGlobals ≠ P) (hb : s.heap.BuiltinsAt mg P)
    (new : codeAmong pos ps.toList = none → ∀ (c' : Addr) (ctv : Value) (h' : Heap) (tk : Tok), Heap.ExtBut P s.heap h' → s.heap.objs.size ≤ c' → c' < h'.objs.size → h'.CodeRec (.ref c') q → h'.get? P = some (PySem.W.tabObj (ps ++ #[rawInt pos.line, rawInt pos.col, .ref c'])) →
      Q (.ref h'.objs.size) { s with heap := h'.push (lamOb q params body scope clos dV ((mg "__name__").getD .none) (.ref c') ctv), toks := tk })
    (old : ∀ cv, codeAmong pos ps.toList = some cv → ∀ (ctv : Value) (h' : Heap) (tk : Tok), (∀ b o, s.heap.get? b = some o → h'.get? b = some o) → s.heap.objs.size ≤ h'.objs.size →
      Q (.ref h'.objs.size) { s with heap := h'.push (lamOb q params body scope clos dV ((mg "__name__").getD .none) cv ctv), toks := tk }) :
    wpAny M A (makeTail "<lambda>" q params (.expr body) scope env dV .none none pos n) Q E s := by
  obtain ⟨bm, ob, b1, b2, _, b4, b5, b6, b7, b8⟩ := hb
  have K1 : ∀ oT : Obj, ∀ b o, s.heap.get? b = some o → (s.heap.push oT).get? b = some o := fun oT b o e => Heap.get?_push_of_some oT e
  unfold makeTail
  rw [hcl, hge]
  refine wpAny_bind (wpAny_pure ?_)
  by_cases hclos : clos.isEmpty = true
  · rw [if_pos hclos]
    refine wpAny_bind (wpAny_pure ?_)
    cases hc : codeAmong pos ps.toList with
    | none => exact wpAny_bind (wpAny_functionCodeX hcode (C.code hP ht) (C.tab hP) hc fun c' h' tk hx g1 g2 _ g3 g4 _ => wpAny_bind (wpAny_builtinsFor (hg.extBut hx hgP) b1 b2 (hx _ _ b4 b5) b6 b7 b8
        (wpAny_bind (wpAny_nsGet (hg.extBut hx hgP) (wpAny_bind (wpAny_pure (wpAny_newObj_type (new hc c' .none h' tk hx g1 g2 g3 g4.2) (by size_fits))))))))
    | some cv => exact wpAny_bind (wpAny_functionCode_hit hcode (C.code hP ht) hc (wpAny_bind (wpAny_builtinsFor hg b1 b2 b5 b6 b7 b8 (wpAny_bind (wpAny_nsGet hg
        (wpAny_bind (wpAny_pure (wpAny_newObj_type (old cv hc .none s.heap s.toks (fun _ _ e => e) (Nat.le_refl _)) (by size_fits)))))))))
  · rw [if_neg hclos]
    refine wpAny_bind (wpAny_newTextTuple ?_)
    have C2 := C.keeps (K1 { cls := .type "tuple", data := .seq ((clos.mergeSort fun a b => a.1.cps.toList ≤ b.1.cps.toList).map (Value.ref ·.2)).toArray })
    cases hc : codeAmong pos ps.toList with
    | none =>
      refine wpAny_bind (wpAny_functionCodeX hcode (C2.code (K1 _ _ _ hP) ht) (C2.tab (K1 _ _ _ hP)) hc fun c' h' tk hx g1 g2 _ g3 g4 _ => ?_)
      have hG := (hg.push { cls := .type "tuple", data := .seq ((clos.mergeSort fun a b => a.1.cps.toList ≤ b.1.cps.toList).map (Value.ref ·.2)).toArray }).extBut hx hgP
      have ex : Heap.ExtBut P s.heap h' := fun b o hb' e => hx b o hb' (K1 _ b o e)
      have lo : s.heap.objs.size ≤ c' := Nat.le_trans (by rw [Heap.size_push]; omega) g1
      exact wpAny_bind (wpAny_builtinsFor hG b1 b2 (ex _ _ b4 b5) b6 b7 b8 (wpAny_bind (wpAny_nsGet hG (wpAny_bind (wpAny_pure (wpAny_newObj_type (new hc c' _ h' tk ex lo g2 g3 g4.2) (by size_fits)))))))
    | some cv => exact wpAny_bind (wpAny_functionCode_hit hcode (C2.code (K1 _ _ _ hP) ht) hc (wpAny_bind (wpAny_builtinsFor (hg.push _) b1 b2 (K1 _ _ _ b5) b6 b7 b8 (wpAny_bind (wpAny_nsGet (hg.push _)
        (wpAny_bind (wpAny_pure (wpAny_newObj_type (old cv hc _ _ s.toks (K1 _) (by rw [Heap.size_push]; omega)) (by size_fits)))))))))
end
section
variable {X : Cx} {pins : List (Addr × Obj)} {σ : L2.St} {H : Hp} {s : Shared}
/-- the function object is made and known from now on -/
theorem lam_core {c P : Addr} {params : Arguments} {body : Expr} {scope : Scope} {pos : Pos} {dV : Value} {E Q : Value → Shared → Prop} (I : Inv X pins σ H s) (TB : TabB X.base X.mg c P) (hcode : X.env.code = .ref c) (hT : TabS H P (lamQ X)) (hfree : ∀ y ∈ scope.names, y.2 = .free → ∃ c, X.env.cells.lookup y.1 = some c)
    (h : ∀ (f c' : Addr) (pm ctv : Value) (H1 : Hp) (s' : Shared), Inv X pins σ H1 s' → (∀ b o, b ≠ P → H b = some o → H1 b = some o) → TabS H1 P (lamQ X) → H f = none → H1 f = some (knw (lamOb (lamQ X) params body scope (cloFrom X.env.cells scope.names []) dV pm (.ref c') ctv)) →
      H1 c' = some (CodeO c' (lamQ X)) → Q (.ref f) s') : wpAny (model X.prog X.w) X.A (makeTail "<lambda>" (lamQ X) params (.expr body) scope X.env dV .none none pos pos.line) Q E s := by
  obtain ⟨ps, hP, ht, ha⟩ := id hT
  have gP : s.heap.get? P = some { cls := .none, data := .fields ps } := I.hok P _ hP
  refine lamTail (mg := X.mg) (c := c) (P := P) (ps := ps) (closure_ok hfree) I.ok.glob (I.mod.glob.keeps I.bk) hcode (TB.code.keeps I.bk) gP ht TB.gP (TB.bm.keeps I.bk) (fun hc c' ctv h' tk hx hge hlt hrec htb => ?_) (fun cv hc ctv h' tk hx hsz => ?_)
  · obtain ⟨c2, oc, vs, t, e2, hoc, hd, hv⟩ := hrec
    cases e2
    have nC : H c' = none := I.hok.fresh hge
    have J := inv_table (t' := tk) (more := #[rawInt pos.line, rawInt pos.col, .ref c']) (h' := h') I hP hx htb hge ⟨oc, vs, t, hoc, hd, hv⟩
    have hsz : s.heap.objs.size ≤ h'.objs.size := Nat.le_trans hge (Nat.le_of_lt hlt)
    have nf : upd (upd H P (.tbl (ps ++ #[rawInt pos.line, rawInt pos.col, .ref c']))) c' (CodeO c' (lamQ X)) h'.objs.size = none := J.hok.fresh (Nat.le_refl _)
    have ext : ∀ b o, b ≠ P → H b = some o → upd (upd H P (.tbl (ps ++ #[rawInt pos.line, rawInt pos.col, .ref c']))) c' (CodeO c' (lamQ X)) b = some o := fun b o n e => by
      rw [upd_ne (ne_of_none e nC), upd_ne n]; exact e
    have J2 := J.laid (t' := tk) (a := h'.objs.size) (o := knw (lamOb (lamQ X) params body scope (cloFrom X.env.cells scope.names []) dV ((X.mg "__name__").getD .none) (.ref c') ctv)) (h' := h'.push (lamOb (lamQ X) params body scope (cloFrom X.env.cells scope.names []) dV ((X.mg "__name__").getD .none) (.ref c') ctv)) (fun b u e => Heap.get?_push_of_some _ e) (Nat.le_refl _)
      ⟨Heap.get?_push_size _ rfl, trivial, ⟨_, Heap.get?_push_size _ rfl⟩, fun _ _ _ _ => trivial⟩
    have eL : (ps ++ #[rawInt pos.line, rawInt pos.col, Value.ref c']).toList = ps.toList ++ [rawInt pos.line, rawInt pos.col, .ref c'] := by simp
    have nP : P ≠ h'.objs.size := Nat.ne_of_lt (Nat.lt_of_lt_of_le (Heap.lt_size gP) hsz)
    have nc : c' ≠ h'.objs.size := Nat.ne_of_lt hlt
    refine h h'.objs.size c' _ ctv _ _ J2 (fun b o n e => by rw [upd_ne (ne_of_none (ext b o n e) nf)]; exact ext b o n e) ⟨_, by rw [upd_ne nP, upd_ne (ne_of_none hP nC), upd_same], by rw [eL]; exact PySem.TriplesOk_snoc _ _ _ _ ht, fun p' cv hcv => ?_⟩ (I.hok.fresh hsz) upd_same (by rw [upd_ne nc]; exact upd_same)
    rw [eL] at hcv
    rcases among_app _ ht hcv with z | z
    · obtain ⟨c0, e1, e2⟩ := ha p' cv z
      have e3 := ext c0 _ (fun z => by rw [z, hP] at e2; exact codeO_ne ps (Option.some.inj e2).symm) e2
      exact ⟨c0, e1, by rw [upd_ne (ne_of_none e3 nf)]; exact e3⟩
    · exact ⟨c', z, by rw [upd_ne nc]; exact upd_same⟩
  · obtain ⟨c', rfl, hco⟩ := ha pos cv hc
    have nf : H h'.objs.size = none := I.hok.fresh hsz
    have J := I.laid (t' := tk) (a := h'.objs.size) (o := knw (lamOb (lamQ X) params body scope (cloFrom X.env.cells scope.names []) dV ((X.mg "__name__").getD .none) (.ref c') ctv)) (h' := h'.push (lamOb (lamQ X) params body scope (cloFrom X.env.cells scope.names []) dV ((X.mg "__name__").getD .none) (.ref c') ctv)) (fun b u e => Heap.get?_push_of_some _ (hx b u e)) hsz
      ⟨Heap.get?_push_size _ rfl, trivial, ⟨_, Heap.get?_push_size _ rfl⟩, fun _ _ _ _ => trivial⟩
    exact h h'.objs.size c' _ ctv _ _ J (fun b o n e => by rw [upd_ne (ne_of_none e nf)]; exact e) (hT.ext fun b o e => by rw [upd_ne (ne_of_none e nf)]; exact e) nf upd_same (by rw [upd_ne (ne_of_none hco nf)]; exact hco)
end
/-- how the parameters of a lambda that is called with nothing are bound: it has none, or one with a written default -/
inductive LamP (params : Arguments) (scope : Scope) : Bool → Prop
  | non (h : ∀ (q : Str) (body : Expr) (cl : List (Str × Addr)) (pm cdv ctv : Value), bindArgs (lamFd q params body scope cl .none pm cdv ctv) ⟨[], []⟩ = pure []) : LamP params scope false
  | one (y : Str) (hy : scope.names.lookup y = some .local) (h : ∀ (q : Str) (body : Expr) (cl : List (Str × Addr)) (T : Addr) (pm cdv ctv u : Value), ∃ k, bindArgs (lamFd q params body scope cl (.ref T) pm cdv ctv) ⟨[], []⟩ = seqItems? (lamFd q params body scope cl (.ref T) pm cdv ctv).defaults >>= k ∧ k (some #[u]) = pure [(y, u)]) : LamP params scope true
/-- the defaults stand -/
def DefAt (H : Hp) : Bool → Value → Prop
  | false, dV => dV = .none
  | true, dV => ∃ T z, dV = .ref T ∧ H T = some (.tup [.int z])
theorem DefAt.o {H : Hp} {b : Bool} {q : Str} {params : Arguments} {body : Expr} {scope : Scope} {clos : List (Str × Addr)} {dV pm cdv ctv : Value} (d : DefAt H b dV) : DL.DefO H (lamOb q params body scope clos dV pm cdv ctv) := fun fd e => by
  cases e
  cases b with
  | false => exact .inl d
  | true =>
    obtain ⟨T, z, h1, h2⟩ := d
    exact .inr ⟨T, z, h1, h2⟩
theorem DefAt.of {H H0 : Hp} {b : Bool} {q : Str} {params : Arguments} {body : Expr} {scope : Scope} {clos : List (Str × Addr)} {dV pm cdv ctv : Value} (d0 : DefAt H0 b dV) (d : DL.DefO H (lamOb q params body scope clos dV pm cdv ctv)) : DefAt H b dV := by
  cases b with
  | false => exact d0
  | true =>
    obtain ⟨T, z, h1, h2⟩ := d0
    rcases d _ rfl with h | ⟨T', z', h3, h4⟩
    · have h : dV = .none := h
      rw [h1] at h; cases h
    · exact ⟨T', z', h3, h4⟩
/-- the defaults of a new function object are none, or new -/
def DefN (H H1 : Hp) (o : Obj) : Prop := ∀ fd : FuncData, o.data = .func fd → fd.defaults = .none ∨ ∃ T z, fd.defaults = .ref T ∧ H T = none ∧ H1 T = some (.tup [.int z])
/-- e, made here: the lambda's function object -/
def tLamV (P : Addr) (q : Str) (C : Hp → Obj → Addr → Prop) : TE := fun σ H Q => TabS H P q ∧ ∀ (H1 : Hp) (f c' : Addr) (o : Obj), (∀ b ob, b ≠ P → H b = some ob → H1 b = some ob) → TabS H1 P q → H f = none → H1 f = some (knw o) → H1 c' = some (CodeO c' q) → DefN H H1 o → C H1 o c' → Q (.ref f) H1
/-- what a lambda's function object is -/
def LamOf (q : Str) (params : Arguments) (body : Expr) (scope : Scope) (clos : List (Str × Addr)) (od : Bool) (H : Hp) (o : Obj) (c' : Addr) : Prop := ∃ dV pm ctv, o = lamOb q params body scope clos dV pm (.ref c') ctv ∧ DefAt H od dV
section
variable {X : Cx} {c P : Addr} {params : Arguments} {body : Expr} {scope : Scope} {pos : Pos}
theorem pe_lamV0 (TB : TabB X.base X.mg c P) (hcode : X.env.code = .ref c) (L : LamS X.env.scope scope) (hdef : defaultsOf params X.env = ([], [])) : PE X (.Lambda params body scope pos) (tLamV P (lamQ X) (LamOf (lamQ X) params body scope (cloFrom X.env.cells scope.names []) false)) := by
  refine ⟨fun pins s σ H Q I ⟨hT, h⟩ => PySem.W.kla_eval hdef ?_⟩
  rw [makeFunction_eq]
  simp only [List.zip_nil_right, List.filterMap_nil, List.isEmpty_nil, if_true, pure_bind]
  exact lam_core I TB hcode hT (L.has I.ok) fun f c' pm ctv H1 s' J fr T1 nf e1 e2 => ⟨.ref f, H1, J, rfl, h H1 f c' _ fr T1 nf e1 e2 (fun fd e => by cases e; exact .inl rfl) ⟨.none, pm, ctv, rfl, rfl⟩⟩
/-- with one parameter, its default a written int -/
theorem pe_lamV1 {z : Int} {j : Nat} {p : Pos} (TB : TabB X.base X.mg c P) (hcode : X.env.code = .ref c) (L : ∀ y ∈ scope.names, y.2 = .free → X.env.scope.names.lookup y.1 = some .cell ∨ X.env.scope.names.lookup y.1 = some .free) (hkw : params.kwonlyargs = []) (hdef : defaultsOf params X.env = ([eval (.Constant (.int z) j p) X.env], [])) :
    PE X (.Lambda params body scope pos) (tLamV P (lamQ X) (LamOf (lamQ X) params body scope (cloFrom X.env.cells scope.names []) true)) := by
  refine ⟨fun pins s σ H Q I ⟨hT, h⟩ => ?_⟩
  rw [arm_eval_Lambda, hdef]
  have pc : PE X (.Constant (.int z) j p) (tC (.int z)) := pe_int
  show wpAny _ _ (do let dv ← evalAll [eval (.Constant (.int z) j p) X.env]; let kdv ← holding dv (evalAllOpt []); makeFunction "<lambda>" (X.env.qual ++ "<lambda>") params (.expr body) scope X.env dv kdv [] pos pos.line) _ _ _
  refine wpAny_bind (wpAny_bind (thn (pc.run pins s σ H (fun v H1 => v = .int z ∧ H1 = H) I ⟨rfl, rfl⟩) fun u s1 ⟨v, H1, I1, r1, ev, eH⟩ => ?_))
  subst ev
  rw [eH] at I1
  obtain ⟨t, rfl⟩ := r1
  refine wpAny_bind (wpAny_holding (wpAny_pure (wpAny_pure (wpAny_bind (wpAny_holding (wpAny_pure ?_))))))
  rw [makeFunction_eq]
  simp only [hkw, List.zip_nil_left, List.filterMap_nil, List.isEmpty_nil, List.isEmpty_cons, Bool.false_eq_true, if_true, if_false, pure_bind]
  refine wpAny_bind (wpAny_newTextTuple ?_)
  have J := I1.laid (t' := s1.toks) (a := s1.heap.objs.size) (o := .tup [.int z]) (h' := s1.heap.push { cls := .type "tuple", data := .seq [Value.int z t].toArray }) (fun b u e => Heap.get?_push_of_some _ e) (Nat.le_refl _)
    ⟨by rw [sizeLine_eq]; simp, [.int z t], .cons ⟨t, rfl⟩ .nil, _, Heap.get?_push_size _ rfl, rfl, ⟨_, rfl⟩⟩
  have nT : H s1.heap.objs.size = none := I1.hok.fresh (Nat.le_refl _)
  have up : ∀ b o, H b = some o → upd H s1.heap.objs.size (.tup [.int z]) b = some o := fun b o e => by rw [upd_ne (ne_of_none e nT)]; exact e
  exact lam_core J TB hcode (hT.ext up) (fun y hy e => by
      rcases L y hy e with k | k
      · exact I.ok.has _ (.inl k)
      · exact I.ok.has _ (.inr k)) fun f c' pm ctv H1 s' J1 fr T1 nf e1 e2 =>
    have hT1 : H1 s1.heap.objs.size = some (.tup [.int z]) := fr _ _ (fun z => by
      rw [← z] at hT
      obtain ⟨ps, hP, _⟩ := hT
      rw [nT] at hP; cases hP) upd_same
    ⟨.ref f, H1, J1, rfl, h H1 f c' _ (fun b o n e => fr b o n (up b o e)) T1 (by
      by_cases hf : f = s1.heap.objs.size
      · rw [hf, upd_same] at nf; cases nf
      · rw [upd_ne hf] at nf; exact nf) e1 e2 (fun fd e => by cases e; exact .inr ⟨_, z, rfl, nT, hT1⟩) ⟨_, pm, ctv, rfl, _, _, rfl, hT1⟩⟩
end
/-! ### a lambda runs -/
/-- the lambda's names: none made here but defaulted parameters; captured ones by their cells -/
structure LamW (scope : Scope) (clos : List (Str × Addr)) : Prop where
  kind : scope.kind = .function
  co : scope.isCoroutine = false
  gen : scope.isGenerator = false
  own : ∀ y ∈ scope.names, y.2 ≠ .cell
  inj : ∀ x y c, clos.lookup x = some c → clos.lookup y = some c → x = y
  has : ∀ x, scope.names.lookup x = some .free → ∃ c, clos.lookup x = some c
/-- the context of the lambda's body, entered at s from the frames outer -/
def lamCxV (P : Program) (w : World) (K : PySem.W.Frag) (mg : Str → Option Value) (base : Heap) (N : List Str) (A : Around) (outer : List Env) (s : Shared) (H : Hp) (E : XK) (q : Str) (scope : Scope) (f c' : Addr) (clos : List (Str × Addr)) : Cx where
  prog := P
  w := w
  K := K
  mg := mg
  base := base
  A := A.deeper (PySem.W.envX q scope s.heap.objs.size f (.ref c') clos)
  N := N
  s_0 := s
  H_0 := H
  env := PySem.W.envX q scope s.heap.objs.size f (.ref c') clos
  outer := outer
  stack := PySem.W.envX q scope s.heap.objs.size f (.ref c') clos :: outer
  ex := []
  fn := fun _ => false
  calm := true
  pn := []
  xe := fun e s' => wpAny (model P w) (A.deeper (PySem.W.envX q scope s.heap.objs.size f (.ref c') clos)) (leaving (PySem.W.envX q scope s.heap.objs.size f (.ref c') clos) e) (fun _ s2 => L2.CX P w outer H s E e s2) (fun e2 s2 => L2.CX P w outer H s E e2 s2) s'
section
variable {P : Program} {w : World} {K : PySem.W.Frag} {mg : Str → Option Value} {base : Heap}
theorem lamV_start {N : List Str} {A : Around} {outer : List Env} {s : Shared} {H : Hp} {E : XK} {q : Str} {scope : Scope} {f c' : Addr} {clos : List (Str × Addr)} {binds : List (Str × Value)} {h₁ : Heap} {tk : Nat} {σ : L2.St} (e0 : Env0 P w K mg base A outer s H) (hd : A.handled = none) (L : LamW scope clos) (hns : h₁.Ns s.heap.objs.size fun y => binds.reverse.lookup y)
    (kp : ∀ b o, s.heap.get? b = some o → h₁.get? b = some o) (cells : ∀ y c, clos.lookup y = some c → H c = none ∧ ∃ v, s.heap.IsCell c v) (hl : σ.length = N.length)
    (hσ : ∀ (i : Nat) (y : Str) (v : V), N[i]? = some y → σ[i]? = some (some v) → Vis scope y → ∃ c u, scope.names.lookup y = some .free ∧ clos.lookup y = some c ∧ RelV v u ∧ s.heap.IsCell c (some u)) :
    Inv (lamCxV P w K mg base N A outer s H E q scope f c' clos) [] σ H { s with heap := h₁, toks := tk } := by
  have ck : ∀ {c : Addr} {v : Option Value}, s.heap.IsCell c v → h₁.IsCell c v := fun {c v} ⟨o, ho, hd⟩ => ⟨o, kp _ _ ho, hd⟩
  have no : ∀ b : Addr, b ∉ (lamCxV P w K mg base N A outer s H E q scope f c' clos).ex := fun b z => absurd (show b ∈ ([] : List Addr) from z) (by simp)
  have cells' : ∀ y c, (lamCxV P w K mg base N A outer s H E q scope f c' clos).env.cells.lookup y = some c → H c = none ∧ ∃ v, s.heap.IsCell c v := fun y c e => cells y c e
  have ok : (lamCxV P w K mg base N A outer s H E q scope f c' clos).Ok :=
    { mod := e0.mod, kind := L.kind, glob := rfl, blt := rfl, above := Nat.le_refl _, inj := fun x y c e1 e2 => L.inj x y c e1 e2
      has := fun y hy => by
        have hy : scope.names.lookup y = some .cell ∨ scope.names.lookup y = some .free := hy
        rcases hy with hy | hy
        · exact absurd rfl (L.own _ (PySem.mem_of_lookup hy))
        · exact L.has y hy
      cab := fun y c z _ => by
        have z : false = true := z
        cases z
      hd := fun _ => hd, frames := Around.frames_deeper e0.frames, stk := .inr ⟨rfl, rfl⟩, exf := fun b z => absurd z (no b), bs := e0.bs, bsz := e0.bsz, noex := fun b _ _ => no b, exfs := fun b z => absurd z (no b), funs := e0.funs, frf := e0.frf }
  exact { ok := ok, os := rfl, bare := e0.bare, base := Un.kept kp, free := e0.hok.fresh (Nat.le_refl _), hok := e0.hok.kept kp, len := hl
          loc := ⟨_, hns, fun i y v e1 e2 e3 => by
            obtain ⟨c, u, h1, h2, h3, h4⟩ := hσ i y v e1 e2 e3
            exact ⟨u, h3, .inr ⟨.inr h1, c, h2, ck h4⟩⟩⟩
          cell := fun y c e => by
            obtain ⟨_, v, z⟩ := cells' y c e
            exact ⟨v, ck z⟩
          freeC := fun y c e => (cells' y c e).1
          pin := fun p hp => absurd (show p ∈ ([] : List (Addr × Obj)) ++ [] from hp) (by simp) }
/-- called with nothing, the object o does so: tl -/
structure ActV (P : Program) (w : World) (K : PySem.W.Frag) (mg : Str → Option Value) (base : Heap) (k : Nat) (o : Obj) (c : Addr) (q : Str) (tl : XK → Hp → VK → Prop) : Prop where
  fn : ∃ fd : FuncData, o = { cls := .type "function", data := .func fd }
  run : ∀ (A : Around) (outer : List Env) (s : Shared) (H : Hp) (Q : VK) (E : XK) (f : Addr), Room (k + 1) A → Env0 P w K mg base A outer s H → H f = some (knw o) → H c = some (CodeO c q) → tl E H Q → codeAny (model P w) A (.call (.ref f) ⟨[], []⟩) (CR (L2.CX P w) outer P w H s Q E) s
/-- the slots' values stand in the known cells -/
def CelS (N : List Str) (scope : Scope) (clos : List (Str × Addr)) (cl : Cels) (σ : L2.St) : Prop := ∀ (i : Nat) (y : Str) (v : V), N[i]? = some y → σ[i]? = some (some v) → Vis scope y → ∃ c u ob, scope.names.lookup y = some .free ∧ clos.lookup y = some c ∧ cl.lookup c = some ob ∧ ob.data = .cell (some u) ∧ RelV v u
theorem act_lam {k : Nat} {N : List Str} {q : Str} {params : Arguments} {body : Expr} {scope : Scope} {clos : List (Str × Addr)} {od : Bool} {dV pm ctv : Value} {c' : Addr} {cl : Cels} {t : XK → TE} {σ : L2.St} (L : LamW scope clos) (bp : LamP params scope od)
    (hcl : ∀ y c, clos.lookup y = some c → ∃ o v, cl.lookup c = some o ∧ o.data = .cell v) (hl : σ.length = N.length) (hσ : CelS N scope clos cl σ)
    (hbody : ∀ (A : Around) (outer : List Env) (s : Shared) (H : Hp) (E : XK) (f c' : Addr), Room k (A.deeper (PySem.W.envX q scope s.heap.objs.size f (.ref c') clos)) → PE (lamCxV P w K mg base N A outer s H E q scope f c' clos) body (t E)) :
    ActV P w K mg base k (lamOb q params body scope clos dV pm (.ref c') ctv) c' q fun E H Q => Cov cl H ∧ DefAt H od dV ∧ t (fun cls d H' => Offn cl H' → E cls d (trk cl H')) σ (utr cl H) fun v H' => Offn cl H' → Q v (trk cl H') := by
  refine ⟨⟨_, rfl⟩, fun A outer s H Q E f hr e0 hf hc ⟨cov, df, ht⟩ => ?_⟩
  have of1 : s.heap.get? f = some (lamOb q params body scope clos dV pm (.ref c') ctv) := (e0.hok f _ hf).1
  obtain ⟨⟨oc, vs, tt, hoc, hdc, hvc⟩, _, _⟩ := e0.hok c' _ hc
  have e1 : Env0 P w K mg base A outer s (utr cl H) := ⟨e0.frames, e0.mod, fun b o e => ⟨(e0.bs b o e).1, utr_none (e0.bs b o e).2⟩, e0.bsz, e0.funs, fun b hb => utr_none (e0.frf b hb), hok_utr e0.hok cov, e0.bare⟩
  have nl : s.heap.NoLimit := e0.mod.nolimit.keeps fun b o e => (e0.bs b o e).1
  have stand : ∀ c o, cl.lookup c = some o → s.heap.get? c = some o := fun c o e => (e0.hok c _ (cov c o e)).1
  have enter : ∀ binds : List (Str × Value), BindsTo s (lamFd q params body scope clos dV pm (.ref c') ctv) ⟨[], []⟩ binds → (∀ y ∈ binds, scope.names.lookup y.1 = some .local) → codeAny (model P w) A (.call (.ref f) ⟨[], []⟩) (CR (L2.CX P w) outer P w (utr cl H) s (fun v H' => Offn cl H' → Q v (trk cl H')) fun cls d H' => Offn cl H' → E cls d (trk cl H')) s := fun binds hb hloc => by
    refine PySem.W.kla_callFunE hr.depth of1 rfl L.co L.gen rfl ⟨c', oc, vs, tt, rfl, hoc, hdc, hvc⟩ (hb _ _ _ _ (wpAny_newFunctionEnv L.own hloc (fun h₁ hns hsb => ⟨nl.fresh _ hsb, ?_⟩) L.kind))
    show codeAny _ _ (.expr body (PySem.W.envX q scope s.heap.objs.size f (.ref c') clos)) _ _
    have J := lamV_start (N := N) (E := fun cls d H' => Offn cl H' → E cls d (trk cl H')) (q := q) (f := f) (c' := c') (tk := s.toks + binds.length) (σ := σ) e1 hr.hd L hns (fun b o e => hsb.extBut b o (Nat.ne_of_lt (Heap.lt_size e)) (Heap.get?_push_of_some _ e))
      (fun y c e => by
        obtain ⟨o, v, h1, h2⟩ := hcl y c e
        exact ⟨utr_in h1, v, o, stand c o h1, h2⟩) hl fun i y v n1 n2 n3 => by
        obtain ⟨c, u, ob, h1, h2, h3, h4, h5⟩ := hσ i y v n1 n2 n3
        exact ⟨c, u, h1, h2, h5, ob, stand c ob h3, h4⟩
    refine PySem.W.kla_codeExpr (wpAny_mono ((hbody A outer s (utr cl H) _ f c' (hr.deeper _)).run [] _ _ (utr cl H) _ J ht) (fun v s' hq => ?_) fun e s' hq => hq)
    obtain ⟨w', H', J', rv, hq⟩ := hq
    exact ⟨w', H', J'.os, J'.bare, J'.base, J'.hok, rv, hq⟩
  have off : ∀ {H' : Hp} {h' : Heap}, Un (frs outer) [] (utr cl H) H' s.heap h' → Off cl H' h' := fun u b o e => ⟨u.free b o (stand b o e) (utr_in e) (by simp), u.keep b o (stand b o e) (utr_in e) (fun z => by
    have := e0.frf b z
    rw [cov b o e] at this; cases this) (by simp)⟩
  have rc : codeAny (model P w) A (.call (.ref f) ⟨[], []⟩) (CR (L2.CX P w) outer P w (utr cl H) s (fun v H' => Offn cl H' → Q v (trk cl H')) fun cls d H' => Offn cl H' → E cls d (trk cl H')) s := by
    cases bp with
    | non h =>
      have df : dV = .none := df
      subst df
      exact enter [] (.of_eq (h q body clos pm (.ref c') ctv)) (fun y hy => absurd hy (by simp))
    | one y hy h =>
      obtain ⟨T, z, rfl, hT⟩ := df
      obtain ⟨_, its, rv, ob, ho, _, hd⟩ := e0.hok T _ hT
      cases rv with
      | cons r1 rn =>
        cases rn
        rename_i u
        obtain ⟨k', h1, h2⟩ := h q body clos T pm (.ref c') ctv u
        obtain ⟨n, hd⟩ := hd
        exact enter [(y, u)] (.of_defaults rfl ho hd h1 h2) (fun y' hy' => by rw [List.mem_singleton.mp hy']; exact hy)
  refine codeAny_mono rc fun r s' hq => ?_
  cases r with
  | error e =>
    obtain ⟨a, B, H', cls, d, rfl, fl, hok, ub, na, os, ag, hE⟩ := hq
    have offB : Off cl H' B := fun b o e => ⟨ub.free b o (stand b o e) (utr_in e), ub.keep b o (stand b o e) (utr_in e) (fun z => by
      have := e0.frf b z
      rw [cov b o e] at this; cases this)⟩
    refine ⟨a, B, trk cl H', cls, d, rfl, fl, hok_trk hok offB, ub_in ub cov, ?_, os, ag, hE fun b o e => (offB b o e).1⟩
    rw [trk_out]
    · exact na
    · rcases cel_or cl a with ⟨o, z⟩ | z
      · have := (offB a o z).2
        rw [fl.2.1] at this; cases this
      · exact z
  | ok fl =>
    cases fl with
    | ret u =>
      obtain ⟨v, H', os, bare, un, hok, rv, q⟩ := hq
      exact ⟨v, trk cl H', os, bare, un_in un cov, hok_trk hok (off un), rv, q fun b o e => (off un b o e).1⟩
    | next => exact hq.elim
    | brk => exact hq.elim
    | cont => exact hq.elim
/-- x(), x a name that holds such an object -/
theorem pe_callV {X : Cx} {i k : Nat} {a : Str} {o : Obj} {c : Addr} {q : Str} {tl : XK → Hp → VK → Prop} {E : XK} {p1 p2 : Pos} (act : ActV X.prog X.w X.K X.mg X.base k o c q tl) (hr : Room (k + 1) X.A) (hx : Passes (L2.CX X.prog X.w) X E) (hN : X.N[i]? = some a) (hv : Vis X.env.scope a)
    (hd : (a == ("__debug__" : Str)) = false := by decide) (hcd : (a == ("__classdict__" : Str)) = false := by decide) :
    PE X (.Call (.Name a p1) [] [] p2) (fun σ H Q => ∃ f, σ[i]? = some (some (.ref f)) ∧ H f = some (knw o) ∧ H c = some (CodeO c q) ∧ tl E H Q) := by
  refine ⟨fun pins s σ H Q I ⟨f, hs, hf, hc, ht⟩ => wpAny_Call_Name_kw (thn ((pe_var (pos := p1) (i := i) hN hv hd hcd).run pins s σ H (fun v H1 => v = .ref f ∧ H1 = H) I ⟨.ref f, hs, rfl, rfl⟩) fun u s1 ⟨v, H1, I1, r1, ev, eH⟩ => ?_)⟩
  subst ev
  rw [eH] at I1
  cases (show u = Value.ref f from r1)
  obtain ⟨fd, eo⟩ := act.fn
  have of1 : s1.heap.get? f = some { cls := .type "function", data := .func fd } := by rw [← eo]; exact (I1.hok f _ hf).1
  refine PySem.W.callWith_F0 ⟨_, _, _, _, of1⟩ (wpAny_call (codeAny_mono (act.run X.A X.stack s1 H Q E f hr I1.env0 hf hc ht) fun r s' hq => ?_))
  cases r with
  | error e => exact hx pins σ H s1 e s' I1 hq
  | ok fl =>
    cases fl with
    | ret u => exact I1.after hq
    | next => exact hq.elim
    | brk => exact hq.elim
    | cont => exact hq.elim
end
end XL

set_option maxHeartbeats 4000000
/-! lambdas as values, over data -/
namespace DL
open PySem PySem.Spec PyProof.Rows L2 LamX RZ RD RE TL XE XA XB XC XD XK XL
mutual
/-- no function in it -/
def noFn : D → Bool
  | .lst ds => noFns ds
  | .tup ds => noFns ds
  | .ins _ _ ds => noFns ds
  | .dK _ _ ds => noFns ds
  | .exc _ _ ds => noFns ds
  | .dT _ _ ds => noFns ds
  | .fn _ _ _ _ _ => false
  | .tpz ds => noFns ds
  | _ => true
def noFns : List D → Bool
  | [] => true
  | d :: ds => noFn d && noFns ds
end
section
variable {K : PySem.W.Frag} {H H' : Hp}
mutual
theorem Den.noFn (g : ∀ b o, H b = some o → (∀ ob, o ≠ knw ob) → H' b = some o) : ∀ (d : D) (v : V), noFn d = true → Den K H d v → Den K H' d v
  | .non, _, _, h => by cases h; exact .non
  | .bl _, _, _, h => by cases h; exact .bl _
  | .int _, _, _, h => by cases h; exact .int _
  | .str _, _, _, h => by cases h; exact .str _
  | .ty _, _, _, h => by cases h; exact .ty _
  | .obj _, _, _, h => by cases h; exact .obj _
  | .lst ds, _, n, h => by
    cases h with
    | lst h1 h2 => exact .lst (g _ _ h1 fun _ z => by cases z) (DenAll.noFn g ds _ n h2)
  | .tup ds, _, n, h => by
    cases h with
    | tup h1 h2 =>
      refine .tup ?_ (DenAll.noFn g ds _ n h2)
      rcases h1 with (h1 | ⟨o, h1⟩) | h1
      · exact .inl (.inl (g _ _ h1 fun _ z => by cases z))
      · exact .inl (.inr ⟨o, g _ _ h1 fun _ z => by cases z⟩)
      · exact .inr h1
  | .ins C ns ds, _, n, h => by
    cases h with
    | ins h1 h2 h3 => exact .ins (g _ _ h1 fun _ z => by cases z) h2 (DenAll.noFn g ds _ n h3)
  | .dK fz ks ds, _, n, h => by
    cases h with
    | dK h1 h2 h3 => exact .dK (g _ _ h1 fun _ z => by cases z) h2 (DenAll.noFn g ds _ n h3)
    | dKz h1 h2 h3 => exact .dKz (g _ _ h1 fun _ z => by cases z) h2 (DenAll.noFn g ds _ n h3)
  | .exc C ns ds, _, n, h => by
    cases h with
    | exc h1 h2 h3 h4 => exact .exc (g _ _ h1 fun _ z => by cases z) (g _ _ h2 fun _ z => by cases z) h3 (DenAll.noFn g ds _ n h4)
  | .dT fz ks ds, _, n, h => by
    cases h with
    | dT h1 h2 h3 => exact .dT (g _ _ h1 fun _ z => by cases z) h2 (DenAll.noFn g ds _ n h3)
    | dTz h1 h2 h3 => exact .dTz (g _ _ h1 fun _ z => by cases z) h2 (DenAll.noFn g ds _ n h3)
  | .tph ks, _, n, h => by
    cases h with
    | tph h1 => exact .tph (g _ _ h1 fun _ z => by cases z)
  | .tpz ds, _, n, h => by
    cases h with
    | tpz h1 h2 h3 => exact .tpz (g _ _ h1 fun _ z => by cases z) h2 (DenAll.noFn g ds _ n h3)
  | .fn o c q cl ds, _, n, h => by cases n
theorem DenAll.noFn (g : ∀ b o, H b = some o → (∀ ob, o ≠ knw ob) → H' b = some o) : ∀ (ds : List D) (vs : List V), noFns ds = true → DenAll K H ds vs → DenAll K H' ds vs
  | [], _, _, h => by cases h; exact .nil
  | d :: ds, _, n, h => by
    have n : (DL.noFn d && noFns ds) = true := n
    rw [Bool.and_eq_true] at n
    cases h with
    | cons h1 h2 => exact .cons (Den.noFn g d _ n.1 h1) (DenAll.noFn g ds _ n.2 h2)
end
end
theorem mem_lookup {cl : Cels} {b : Addr} {o : Obj} (e : cl.lookup b = some o) : (b, o) ∈ cl := by
  induction cl with
  | nil => cases e
  | cons p cl ih =>
    obtain ⟨c, u⟩ := p
    rw [List.lookup_cons] at e
    split at e
    · rename_i h
      cases e
      rw [beq_iff_eq.mp h]
      exact List.mem_cons_self
    · exact List.mem_cons_of_mem _ (ih e)
section
variable {K : PySem.W.Frag} {B : Bx} {M : List Addr} {H H1 : Hp} {Γ : Gam} {P : D → Prop}
/-- what is wished of an exception in got: it comes to P -/
theorem got_wish {cs : List Value} {Q : VK} {H2 : Hp} {C dx : Addr} {ns : List Str} {us : List V} {es : List D} (g1 : Good K B M H1) (k : ∀ v H' d, R K B H1 H' → P d → Den K (hid M H') d v → Q v H') (r2 : R K B H1 H2) (e : H2 dx = some (.xd (ns.zip us))) (ln : ns.length = us.length) (dn : DenAll K (hid M H2) es us) (px : gotX K cs P C ns es) :
    wGot K cs (spField K) Q (.ref C) (some dx) H2 := by
  have g2 := g1.r r2
  obtain ⟨hn, z, hz, hp⟩ := px
  obtain ⟨v, hv, dv⟩ := fld_ok ln dn hz
  cases dv
  have new2 : ∀ {H3 : Hp} {p : Addr} {o : HO}, R K B H1 H3 → H3 p = none → R K B H1 (upd H3 p o) := fun r3 hp => r3.trans ((g1.r r3).new hp)
  refine ⟨hn.ex, fun a na => ⟨C, rfl, hn.xf, hn.no _ (by decide), dx, _, _, rfl, e, hv, rfl, C, dx, _, z, rfl, hn.xf, hn.no, rfl, e, hv, ?_⟩⟩
  have sub : ∀ {H3 : Hp}, SubH H2 H3 → R K B H2 H3 := fun s => R.ofSub g2 s
  cases ef : fieldOf z with
  | one f =>
    rw [ef] at hp
    obtain ⟨y, hy, py⟩ := hp
    obtain ⟨w, hw, dw⟩ := fld_ok ln dn hy
    refine ⟨w, hw, fun H3 s => ⟨sz2 (Nat.le_of_ble_eq_true rfl), fun p np => ?_⟩⟩
    have r3 := sub s
    exact k _ _ _ (new2 (r2.trans r3) np) py (.tup (.inl (.inl (hid_of ((g2.r r3).fresh np) upd_same))) (.cons (.str z) (.cons ((g2.r r3).den ((g2.r r3).new np) (g2.den r3 dw)) .nil)))
  | two f f' =>
    rw [ef] at hp
    obtain ⟨y, y', hy, hy', py⟩ := hp
    obtain ⟨w, hw, dw⟩ := fld_ok ln dn hy
    obtain ⟨w', hw', dw'⟩ := fld_ok ln dn hy'
    refine ⟨w, w', hw, hw', fun H3 p0 s np0 => ⟨sz2 (Nat.le_of_ble_eq_true rfl), fun p np => ?_⟩⟩
    have r3 := sub s
    have g3 := g2.r r3
    have r4 := g3.new (o := .tup [w, w']) np0
    have g4 := g3.r r4
    have r5 := g4.new (o := .tup [.str z, .ref p0]) np
    exact k _ _ _ (new2 ((r2.trans r3).trans r4) np) py (.tup (.inl (.inl (hid_of (g4.fresh np) upd_same))) (.cons (.str z) (.cons
      (g4.den r5 (.tup (.inl (.inl (hid_of (g3.fresh np0) upd_same))) (.cons (g3.den r4 (g2.den r3 dw)) (.cons (g3.den r4 (g2.den r3 dw')) .nil)))) .nil)))
  | no =>
    rw [ef] at hp
    refine fun H3 s => ⟨sz2 (Nat.le_of_ble_eq_true rfl), fun p np => ?_⟩
    have r3 := sub s
    exact k _ _ _ (new2 (r2.trans r3) np) hp (.tup (.inl (.inl (hid_of ((g2.r r3).fresh np) upd_same))) (.cons (.str z) (.cons .non .nil)))
end
section
variable {P : Program} {w : World} {K : PySem.W.Frag} {mg : Str → Option Value} {base : Heap}
/-- the promise of got, handed a lambda that somebody keeps -/
def spGotV (P : Program) (w : World) (K : PySem.W.Frag) (mg : Str → Option Value) (base : Heap) (cs : List Value) (sp : Addr → Value → Option Addr → Sp) : Sp := fun vs H Q _ => ∃ (f : Addr) (o : Obj) (c : Addr) (q : Str) (tl : XK → Hp → VK → Prop), vs = [.ref f] ∧ ActV P w K mg base 20 o c q tl ∧ H f = some (knw o) ∧ H c = some (CodeO c q) ∧
  TTgot K cs sp (fun E H' Q' => H' f = some (knw o) ∧ tl E H' Q') H Q
/-- what the lambda does for got: PP of ("", its value), or of what it raises -/
def ActD (P : Program) (w : World) (K : PySem.W.Frag) (mg : Str → Option Value) (base : Heap) (B : Bx) (cs : List Value) (o : Obj) (c : Addr) (q : Str) (cl : Cels) (ds : List D) (PP : D → Prop) : Prop := ∃ tl, ActV P w K mg base 20 o c q tl ∧
  ∀ (B' : Bx) (M : List Addr) (H : Hp) (vs : List V) (E : XK) (Q : VK), Box' B B' → B'.PX = gotX K cs PP → (B'.E = fun cls d H' => Offn cl H' → E cls d (trk cl H')) → Cov cl H → DefO H o → Good K B' M (utr cl H) → DenAll K (hid M (utr cl H)) ds vs → CelV cl vs →
    (∀ v H' d, R K B' (utr cl H) H' → PP (.tup [.str "", d]) → Den K (hid M H') d v → Offn cl H' → Q v (trk cl H')) → tl E H Q
theorem trk_sub {cl : Cels} {H : Hp} (of : Offn cl H) : ∀ b o, H b = some o → trk cl H b = some o := fun b o e => by
  rw [trk_out]
  · exact e
  · rcases cel_or cl b with ⟨ob, z⟩ | z
    · rw [of b ob z] at e; cases e
    · exact z
theorem ev_gotV {B : Bx} {Γ : Gam} {cs : List Value} {te : TE} {E : XK} {PP : D → Prop} (h : Ev K B te Γ fun d => ∃ o c q cl ds, d = .fn o c q cl ds ∧ noFns ds = true ∧ ActD P w K mg base B cs o c q cl ds PP) :
    Ev K B (tCall (spGotV P w K mg base cs (spField K)) [] E (tCons te tNil)) Γ PP := fun M σ H Q g x k => by
  refine h M σ H _ g x fun v H1 d r1 ⟨o, c, q, cl, ds, e, nf, tl, act, hD⟩ dn => ?_
  subst e
  have g1 := g.r r1
  cases dn with
  | @fn f _ _ _ _ vs _ hf hc hcl hcv hds hdef =>
  have cov : Cov cl H1 := fun b ob z => (hid_get (hcl _ (mem_lookup z))).2
  have offM : ∀ b ob, cl.lookup b = some ob → b ∉ M := fun b ob z => (hid_get (hcl _ (mem_lookup z))).1
  have hb : cl.lookup B.b = none := by
    obtain ⟨zs, i, r0, m, c0, b1, _⟩ := g1.box
    exact cov.out b1 fun _ z => by cases z
  have hl : cl.lookup B.l = none := by
    obtain ⟨zs, i, r0, m, c0, _, _, b3, _⟩ := g1.box
    exact cov.out b3 fun _ z => by cases z
  have bx0 : BoxOk K B (utr cl H1) := by
    obtain ⟨zs, i, r0, m, c0, b1, b2, b3, b4⟩ := g1.box
    exact ⟨zs, i, r0, m, c0, by rw [utr_out hb]; exact b1, b2, by rw [utr_out hl]; exact b3, b4⟩
  have tb0 : TbOk B (utr cl H1) := g1.tb.imp id fun ⟨ps, t1, t2, t3⟩ => ⟨ps, cov.utr_keep t1 (fun _ z => by cases z), t2, fun pos cv hcv => by
    obtain ⟨c0, e1, e2⟩ := t3 pos cv hcv
    exact ⟨c0, e1, cov.utr_keep e2 fun _ z => by unfold CodeO at z; cases z⟩⟩
  have bxT : ∀ {H' : Hp}, BoxOk K B H' → BoxOk K B (trk cl H') := fun ⟨zs, i, r0, m, c0, b1, b2, b3, b4⟩ => ⟨zs, i, r0, m, c0, by rw [trk_out hb]; exact b1, b2, by rw [trk_out hl]; exact b3, b4⟩
  have rT : ∀ {H' : Hp}, BoxOk K B H' → TbOk B H' → (∀ a ob, utr cl H1 a = some ob → B.No a → H' a = some ob) → Offn cl H' → R K B H1 (trk cl H') := fun {H'} b t fr of => ⟨bxT b, fun a ob e na => by
      rcases cel_or cl a with ⟨ob2, z⟩ | z
      · rw [trk_in z, ← cov a ob2 z]; exact e
      · rw [trk_out z]
        exact fr a ob (by rw [utr_out z]; exact e) na, fun _ => t.sub (trk_sub of)⟩
  have hidT : ∀ {H' : Hp}, Offn cl H' → ∀ a ob, hid M H' a = some ob → hid M (trk cl H') a = some ob := fun of a ob e => by
    obtain ⟨n, e⟩ := hid_get e
    exact hid_of n (trk_sub of a ob e)
  have fresh2 : ∀ {H2 : Hp} {p : Addr} {ob : HO}, R K B H1 H2 → H2 p = none → R K B H1 (upd H2 p ob) := fun r2 hp => r2.trans ((g1.r r2).new hp)
  have kk : ∀ v H' d, R K B H1 H' → PP d → Den K (hid M H') d v → Q v H' := fun v H' d r2 => k v H' d (r1.trans r2)
  have xk : XkOk K { B with H0 := utr cl H1, M0 := M, E := fun cls d H' => Offn cl H' → wGot K cs (spField K) Q cls d (trk cl H'), PX := gotX K cs PP } := fun H2 C dx ns us es bx tbx fr n0 e ln dn px of =>
    got_wish g1 kk (rT bx tbx (fun a ob e na => fr a ob e ⟨na.b, na.t⟩) of) (trk_sub of _ _ e) ln (DenAll.sub (hidT of) _ _ dn) px
  have g' : Good K { B with H0 := utr cl H1, M0 := M, E := fun cls d H' => Offn cl H' → wGot K cs (spField K) Q cls d (trk cl H'), PX := gotX K cs PP } M (utr cl H1) :=
    ⟨g1.mem, g1.meml, g1.memt, bx0, tb0, fun a ha => by
      rcases cel_or cl a with ⟨ob, z⟩ | z
      · exact absurd ha (offM a ob z)
      · exact ⟨by rw [utr_out z]; exact (g1.there a ha).1, fun q e => (g1.there a ha).2.1 q (by rw [utr_out z] at e; exact e), fun q e => (g1.there a ha).2.2 q (by rw [utr_out z] at e; exact e)⟩, fun _ _ e _ => e, fun _ m => m, xk⟩
  have dsU : DenAll K (hid M (utr cl H1)) ds vs := DenAll.noFn (fun b ob e n => by
    obtain ⟨nm, e⟩ := hid_get e
    exact hid_of nm (cov.utr_keep e n)) ds vs nf hds
  show spGotV P w K mg base cs (spField K) ([V.ref f] ++ []) H1 Q E
  refine ⟨f, o, c, q, tl, rfl, act, (hid_get hf).2, (hid_get hc).2, (hid_get hf).2, ?_⟩
  refine hD { B with H0 := utr cl H1, M0 := M, E := fun cls d H' => Offn cl H' → wGot K cs (spField K) Q cls d (trk cl H'), PX := gotX K cs PP } M H1 vs (wGot K cs (spField K) Q) _ ⟨rfl, rfl, rfl, rfl⟩ rfl rfl cov (hdef.sub fun a xs e => (hid_get e).2) g' dsU hcv fun v H' d r2 pd dn of => ⟨sz2 (Nat.le_of_ble_eq_true rfl), fun p np => ?_⟩
  have r2' : R K B H1 (trk cl H') := rT r2.box (r2.tb tb0) (fun a ob e na => r2.two a ob e ⟨na.b, na.t⟩) of
  have g2 := g1.r r2'
  exact kk _ _ _ (fresh2 r2' np) pd (.tup (.inl (.inl (hid_of (g2.fresh np) upd_same))) (.cons (.str "") (.cons (g2.den (g2.new np) (Den.sub (hidT of) _ _ dn)) .nil)))
/-- a lambda is made -/
theorem ev_lamV {B : Bx} {Γ : Gam} {q : Str} {C : Hp → Obj → Addr → Prop} {PP : D → Prop} (tb : B.t ≠ B.b) (hq : B.q = q) (h : ∀ H o c, C H o c → PP (.fn o c q [] [])) : Ev K B (tLamV B.t q C) Γ PP := fun M σ H Q g x k => by
  subst hq
  have tab : TabS H B.t B.q := g.tb.resolve_left tb
  refine ⟨tab, fun H1 f c' o ext T1 nf hf hc hd c => ?_⟩
  have r : R K B H H1 := by
    refine ⟨?_, fun a ob e n => ext a ob n.t e, fun _ => .inr T1⟩
    obtain ⟨zs, i, r0, m, c0, b1, b2, b3, b4⟩ := g.box
    refine ⟨zs, i, r0, m, c0, ext _ _ (Ne.symm tb) b1, b2, ext _ _ (fun z => ?_) b3, b4⟩
    obtain ⟨ps, t1, _⟩ := tab
    rw [z, t1] at b3
    cases b3
  have g1 := g.r r
  have cM : c' ∉ M := fun m => (g1.there c' m).2.1 _ hc
  exact k _ H1 _ r (h H1 o c' c) (.fn (vs := []) (hid_of (g.fresh nf) hf) (hid_of cM hc) (fun p m => absurd m (by simp)) .nil .nil fun fd e => by
    rcases hd fd e with z | ⟨T, z, h1, h2, h3⟩
    · exact .inl z
    · exact .inr ⟨T, z, h1, hid_of (g.fresh h2) h3⟩)
/-- the promise of all_got: got of each -/
def fAllGot (P : Program) (w : World) (K : PySem.W.Frag) (mg : Str → Option Value) (base : Heap) (cs : List Value) : Bx → List D → (D → Prop) → Prop := fun B ds PP => ∃ xs : List (D × (D → Prop)), ds = [.lst (xs.map (·.1))] ∧ xs.length ≤ 1000 ∧
  (∀ x, x ∈ xs → ∃ o c q cl es, x.1 = .fn o c q cl es ∧ noFns es = true ∧ ActD P w K mg base B cs o c q cl es x.2) ∧ ∀ out, Paired (fun (x : D × (D → Prop)) d => x.2 d) xs out → PP (.lst out)
end
end DL

set_option maxHeartbeats 4000000
/-! lambdas in lists that keep names of their maker -/
namespace XL
open PySem PySem.Spec PyProof.Rows L2 LamX XA XB
/-- the cells of the names ys, and what they hold -/
def CelOf (cells : List (Str × Addr)) : List (Nat × Str) → Cels → List V → Prop
  | [], [], [] => True
  | y :: ys, p :: cl, v :: vs => cells.lookup y.2 = some p.1 ∧ (∃ u, p.2.data = .cell (some u) ∧ RelV v u) ∧ CelOf cells ys cl vs
  | _, _, _ => False
def SloV (σ : L2.St) : List (Nat × Str) → List V → Prop
  | [], [] => True
  | y :: ys, v :: vs => σ[y.1]? = some (some v) ∧ SloV σ ys vs
  | _, _ => False
def InjC (cells : List (Str × Addr)) : Prop := ∀ x y c, cells.lookup x = some c → cells.lookup y = some c → x = y
theorem CelOf.len {cells : List (Str × Addr)} : ∀ {ys : List (Nat × Str)} {cl : Cels} {vs : List V}, CelOf cells ys cl vs → ys.length = cl.length ∧ ys.length = vs.length
  | [], [], [], _ => ⟨rfl, rfl⟩
  | y :: ys, p :: cl, v :: vs, h => by
    obtain ⟨a, b⟩ := CelOf.len h.2.2
    exact ⟨by rw [List.length_cons, List.length_cons, a], by rw [List.length_cons, List.length_cons, b]⟩
  | [], [], _ :: _, h => h.elim
  | [], _ :: _, _, h => h.elim
  | _ :: _, [], _, h => h.elim
  | _ :: _, _ :: _, [], h => h.elim
theorem CelOf.at_ {cells : List (Str × Addr)} : ∀ {ys : List (Nat × Str)} {cl : Cels} {vs : List V}, CelOf cells ys cl vs → ∀ p, p ∈ cl → ∃ y, y ∈ ys ∧ cells.lookup y.2 = some p.1
  | [], [], [], _, p, m => absurd m (by simp)
  | y :: ys, p :: cl, v :: vs, h, p', m => by
    rcases List.mem_cons.mp m with e | m
    · exact ⟨y, List.mem_cons_self, by rw [e]; exact h.1⟩
    · obtain ⟨y', h1, h2⟩ := CelOf.at_ h.2.2 p' m
      exact ⟨y', List.mem_cons_of_mem _ h1, h2⟩
  | [], [], _ :: _, h, _, _ => h.elim
  | [], _ :: _, _, h, _, _ => h.elim
  | _ :: _, [], _, h, _, _ => h.elim
  | _ :: _, _ :: _, [], h, _, _ => h.elim
theorem CelOf.of {cells : List (Str × Addr)} : ∀ {ys : List (Nat × Str)} {cl : Cels} {vs : List V}, CelOf cells ys cl vs → ∀ y, y ∈ ys → ∃ p, p ∈ cl ∧ cells.lookup y.2 = some p.1 ∧ ∃ u, p.2.data = .cell (some u)
  | [], [], [], _, p, m => absurd m (by simp)
  | y :: ys, p :: cl, v :: vs, h, y', m => by
    rcases List.mem_cons.mp m with e | m
    · obtain ⟨u, hu, _⟩ := h.2.1
      exact ⟨p, List.mem_cons_self, by rw [e]; exact h.1, u, hu⟩
    · obtain ⟨p', h1, h2⟩ := CelOf.of h.2.2 y' m
      exact ⟨p', List.mem_cons_of_mem _ h1, h2⟩
  | [], [], _ :: _, h, _, _ => h.elim
  | [], _ :: _, _, h, _, _ => h.elim
  | _ :: _, [], _, h, _, _ => h.elim
  | _ :: _, _ :: _, [], h, _, _ => h.elim
theorem CelOf.look {cells : List (Str × Addr)} (inj : InjC cells) : ∀ {ys : List (Nat × Str)} {cl : Cels} {vs : List V}, CelOf cells ys cl vs → (ys.map (·.2)).Nodup → ∀ p, p ∈ cl → cl.lookup p.1 = some p.2
  | [], [], [], _, _, p, m => absurd m (by simp)
  | y :: ys, p :: cl, v :: vs, h, nd, p', m => by
    rw [List.map_cons, List.nodup_cons] at nd
    rcases List.mem_cons.mp m with e | m
    · rw [e, List.lookup_cons_self]
    · obtain ⟨y', h1, h2⟩ := CelOf.at_ h.2.2 p' m
      have ne : p'.1 ≠ p.1 := fun z => nd.1 (by
        rw [inj y.2 y'.2 p.1 h.1 (by rw [← z]; exact h2)]
        exact List.mem_map.mpr ⟨y', h1, rfl⟩)
      rw [List.lookup_cons, show (p'.1 == p.1) = false from beq_eq_false_iff_ne.mpr ne]
      exact CelOf.look inj h.2.2 nd.2 p' m
  | [], [], _ :: _, h, _, _, _ => h.elim
  | [], _ :: _, _, h, _, _, _ => h.elim
  | _ :: _, [], _, h, _, _, _ => h.elim
  | _ :: _, _ :: _, [], h, _, _, _ => h.elim
theorem CelOf.v {cells : List (Str × Addr)} : ∀ {ys : List (Nat × Str)} {cl : Cels} {vs : List V}, CelOf cells ys cl vs → DL.CelV cl vs
  | [], [], [], _ => .nil
  | y :: ys, p :: cl, v :: vs, h => .cons h.2.1 (CelOf.v h.2.2)
  | [], [], _ :: _, h => h.elim
  | [], _ :: _, _, h => h.elim
  | _ :: _, [], _, h => h.elim
  | _ :: _, _ :: _, [], h => h.elim
/-- x(e), the cells of ys known meanwhile -/
def tTrk (cells : List (Str × Addr)) (ys : List (Nat × Str)) (sp : Sp) (ta : TA) : TE := fun σ H Q => ta σ H fun as H1 => ∃ vs, SloV σ ys vs ∧ ∀ cl, CelOf cells ys cl vs → InjC cells → Offn cl H1 → sp as (trk cl H1) (fun v' H' => Q v' (utr cl H')) C8.E0
section
variable {X : Cx} {pins : List (Addr × Obj)} {σ : L2.St} {H : Hp} {s : Shared}
theorem cels_at (I : Inv X pins σ H s) : ∀ {ys : List (Nat × Str)} {vs : List V}, (∀ y, y ∈ ys → X.N[y.1]? = some y.2 ∧ X.env.scope.names.lookup y.2 = some .cell) → SloV σ ys vs → ∃ cl, CelOf X.env.cells ys cl vs ∧ ∀ p, p ∈ cl → s.heap.get? p.1 = some p.2
  | [], [], _, _ => ⟨[], True.intro, fun p m => absurd m (by simp)⟩
  | y :: ys, v :: vs, hy, h => by
    obtain ⟨cl, h1, h2⟩ := cels_at I (ys := ys) (vs := vs) (fun y' m => hy y' (List.mem_cons_of_mem _ m)) h.2
    obtain ⟨hn, hc⟩ := hy y List.mem_cons_self
    obtain ⟨m, _, hl⟩ := I.loc
    obtain ⟨u, r, l⟩ := hl y.1 y.2 v hn h.1 (.inr (.inl hc))
    rcases l with ⟨hk, _⟩ | ⟨_, c, e, o, ho, hd⟩
    · have hk : X.env.scope.names.lookup y.2 = some .local := hk
      rw [hc] at hk; cases hk
    · refine ⟨(c, o) :: cl, ⟨e, ⟨u, hd, r⟩, h1⟩, fun p m => ?_⟩
      rcases List.mem_cons.mp m with z | m
      · rw [z]; exact ho
      · exact h2 p m
  | [], _ :: _, _, h => h.elim
  | _ :: _, [], _, h => h.elim
end
theorem pe_trk {X : Cx} {k : Nat} {f : Addr} {fd : FuncData} {ps : List Str} {sp : Sp} {x : Str} {e : Expr} {es : List Expr} {ta : TA} {p pos : Pos} (ys : List (Nat × Str)) (F : FnOk X.prog X.w X.K X.mg X.base C8.CX0 k f fd ps sp) (hr : Room k X.A) (hg : Gl X x) (hm : X.mg x = some (.ref f)) (hk : PySem.W.keepIn X.K (.ref f) = true) (hb : L2.Binds X.K fd ps []) (ha : PA X (e :: es) ta)
    (hys : ∀ y, y ∈ ys → X.N[y.1]? = some y.2 ∧ X.env.scope.names.lookup y.2 = some .cell) (hfn : ∀ y, y ∈ ys → X.fn y.2 = true) (hdb : (x == ("__debug__" : Str)) = false := by decide)
    (hst : starEach (e :: es) X.env = (false, eval e X.env) :: starEach es X.env := by rfl) (hpl : (backTo pos (starEach es X.env)).any (·.1) = false := by rfl) : PE X (.Call (.Name x p) (e :: es) [] pos) (tTrk X.env.cells ys sp ta) := by
  refine ⟨fun pins s σ H Q I h => wpAny_Call_Name_kw (ld_glob I hg hm (PySem.W.callWith_K (h₀ := X.base) I.ok.mod.kin hk (thn (ha.run pos pins s σ H _ I h) fun us s1 ⟨as, H1, I1, r, vs, hv, q⟩ => ⟨I1.kIn, ?_⟩) hst hpl) hdb)⟩
  obtain ⟨cl, co, st⟩ := cels_at I1 hys hv
  have mem : ∀ b o, cl.lookup b = some o → (b, o) ∈ cl := fun b o z => DL.mem_lookup z
  have offn : Offn cl H1 := fun b o z => by
    obtain ⟨y, _, hc⟩ := co.at_ _ (mem b o z)
    exact I1.freeC _ _ hc
  have off : Off cl H1 s1.heap := fun b o z => ⟨offn b o z, st _ (mem b o z)⟩
  have above : ∀ b o, cl.lookup b = some o → X.s_0.heap.objs.size ≤ b := fun b o z => by
    obtain ⟨y, hy, hc⟩ := co.at_ _ (mem b o z)
    exact I1.ok.cab _ _ (hfn y hy) hc
  have nol : ∀ b, (∀ o, cl.lookup b ≠ some o) → trk cl H1 b = H1 b := fun b n => by
    rcases cel_or cl b with ⟨o, z⟩ | z
    · exact absurd z (n o)
    · exact trk_out z
  have e0 := I1.env0
  have e1 : Env0 X.prog X.w X.K X.mg X.base X.A X.stack s1 (trk cl H1) := by
    refine ⟨e0.frames, e0.mod, fun b o e => ⟨(e0.bs b o e).1, ?_⟩, e0.bsz, e0.funs, fun b hb => ?_, hok_trk e0.hok off, e0.bare⟩
    · rw [nol b fun o z => Nat.lt_irrefl _ (Nat.lt_of_lt_of_le (Nat.lt_of_lt_of_le (Heap.lt_size e) I1.ok.bsz) (above b o z))]
      exact (e0.bs b o e).2
    · rw [nol b fun o z => ?_]
      · exact e0.frf b hb
      · rcases List.mem_cons.mp (I1.stkSub b hb) with w | w
        · obtain ⟨y, _, hc⟩ := co.at_ _ (mem b o z)
          exact I1.cne _ _ hc w
        · obtain ⟨_, ob, ho, _⟩ := I1.ok.funs.mem w
          exact Nat.lt_irrefl _ (Nat.lt_of_lt_of_le (Heap.lt_size ho) (above b o z))
  have hq := q cl co I1.ok.inj offn
  have hl : us.length = ps.length := by rw [← r.length]; exact F.len _ _ _ _ hq
  have bd := hb s1 us I1.kIn (by rw [List.append_nil]; exact hl)
  rw [List.append_nil] at bd
  refine wpAny_call (codeAny_mono (F.run X.A X.stack s1 (trk cl H1) ⟨us, []⟩ us as _ C8.E0 hr e1 bd r hq) fun rr s' z => ?_)
  cases rr with
  | error er => exact (show False from z).elim
  | ok fl =>
    cases fl with
    | next => exact False.elim z
    | brk => exact False.elim z
    | cont => exact False.elim z
    | ret u =>
      obtain ⟨v, H2, os, bare, un, hok, rv, q2⟩ := z
      have cov : Cov cl H2 := fun b o z => un.frzs b o _ (trk_in z)
      exact I1.after ⟨v, utr cl H2, os, bare, un_out un off hok, hok_utr hok cov, rv, q2⟩
/-! ### what such a lambda is -/
def slo {α : Type} (n : Nat) : List (Nat × Str) → List α → List (Option α)
  | y :: ys, v :: vs => (slo n ys vs).set y.1 (some v)
  | _, _ => List.replicate n none
theorem slo_len {α : Type} (n : Nat) : ∀ (ys : List (Nat × Str)) (vs : List α), (slo n ys vs).length = n
  | y :: ys, v :: vs => by
    unfold slo
    rw [List.length_set]
    exact slo_len n ys vs
  | [], _ => by unfold slo; exact List.length_replicate
  | _ :: _, [] => by unfold slo; exact List.length_replicate
theorem slo_get {α : Type} {n i : Nat} {v : α} : ∀ {ys : List (Nat × Str)} {vs : List α}, (slo n ys vs)[i]? = some (some v) → ∃ (k : Nat) (y : Nat × Str), ys[k]? = some y ∧ y.1 = i ∧ vs[k]? = some v
  | y :: ys, w :: vs, h => by
    unfold slo at h
    by_cases e : y.1 = i
    · subst e
      by_cases hb : y.1 < (slo n ys vs).length
      · rw [List.getElem?_set_self hb] at h
        have h := Option.some.inj (Option.some.inj h)
        exact ⟨0, y, rfl, rfl, by rw [h]; rfl⟩
      · rw [List.getElem?_eq_none (by rw [List.length_set]; omega)] at h; cases h
    · rw [List.getElem?_set_ne e] at h
      obtain ⟨k, y', h1, h2, h3⟩ := slo_get h
      exact ⟨k + 1, y', h1, h2, h3⟩
  | [], _, h => by
    unfold slo at h
    rw [List.getElem?_replicate] at h
    split at h <;> cases h
  | _ :: _, [], h => by
    unfold slo at h
    rw [List.getElem?_replicate] at h
    split at h <;> cases h
structure CapB (scope : Scope) (N : List Str) (ys : List (Nat × Str)) : Prop where
  kind : scope.kind = .function
  co : scope.isCoroutine = false
  gen : scope.isGenerator = false
  own : ∀ y ∈ scope.names, y.2 ≠ .cell
  free : ∀ y ∈ scope.names, y.2 = .free → y.1 ∈ ys.map (·.2)
  at_ : ∀ y, y ∈ ys → N[y.1]? = some y.2 ∧ scope.names.lookup y.2 ≠ some .local
  nd : (ys.map (·.2)).Nodup
def capB (scope : Scope) (N : List Str) (ys : List (Nat × Str)) : Bool := decide (scope.kind = .function) && (!scope.isCoroutine && (!scope.isGenerator && ((scope.names.all fun y => !decide (y.2 = .cell) && (!decide (y.2 = .free) || decide (y.1 ∈ ys.map (·.2)))) && ((ys.all fun y => decide (N[y.1]? = some y.2) && !decide (scope.names.lookup y.2 = some .local)) && decide ((ys.map (·.2)).Nodup)))))
theorem capB_ok {scope : Scope} {N : List Str} {ys : List (Nat × Str)} (h : capB scope N ys = true) : CapB scope N ys := by
  unfold capB at h
  simp only [Bool.and_eq_true, Bool.or_eq_true, Bool.not_eq_true', decide_eq_true_eq, decide_eq_false_iff_not, List.all_eq_true] at h
  obtain ⟨h1, h2, h3, h4, h5, h6⟩ := h
  exact ⟨h1, h2, h3, fun y hy => (h4 y hy).1, fun y hy e => (h4 y hy).2.resolve_left fun z => z e, fun y hy => h5 y hy, h6⟩
/-- the names that a lambda keeps are its maker's -/
def freeB (sc scope : Scope) : Bool := scope.names.all fun y => !decide (y.2 = .free) || decide (sc.names.lookup y.1 = some .cell) || decide (sc.names.lookup y.1 = some .free)
theorem freeB_ok {sc scope : Scope} (h : freeB sc scope = true) : ∀ y ∈ scope.names, y.2 = .free → sc.names.lookup y.1 = some .cell ∨ sc.names.lookup y.1 = some .free := fun y hy e => by
  have := List.all_eq_true.mp h y hy
  simp only [Bool.or_eq_true, Bool.not_eq_true', decide_eq_true_eq, decide_eq_false_iff_not] at this
  rcases this with (z | z) | z
  · exact absurd e z
  · exact .inl z
  · exact .inr z
def ysB (N : List Str) (sc : Scope) (ys : List (Nat × Str)) : Bool := ys.all fun y => decide (N[y.1]? = some y.2) && decide (sc.names.lookup y.2 = some .cell)
theorem ysB_ok {N : List Str} {sc : Scope} {ys : List (Nat × Str)} (h : ysB N sc ys = true) : ∀ y, y ∈ ys → N[y.1]? = some y.2 ∧ sc.names.lookup y.2 = some .cell := fun y hy => by
  have := List.all_eq_true.mp h y hy
  simpa only [Bool.and_eq_true, decide_eq_true_eq] using this
theorem clo_cm {cells : List (Str × Addr)} {scope : Scope} (hfree : ∀ y ∈ scope.names, y.2 = .free → ∃ c, cells.lookup y.1 = some c) {y : Str} {c : Addr} (e : (cloFrom cells scope.names []).lookup y = some c) : cells.lookup y = some c ∧ (y, NameKind.free) ∈ scope.names := by
  rcases cloFrom_mem (PySem.mem_of_lookup e) with hm | ⟨h1, h2⟩
  · cases hm
  · obtain ⟨c1, hc⟩ := hfree _ h1 rfl
    have hc : cells.lookup y = some c1 := hc
    rw [h2, hc]
    exact ⟨rfl, h1⟩
theorem clo_has {cells : List (Str × Addr)} {scope : Scope} {y : Str} (e : scope.names.lookup y = some .free) : ∃ c, (cloFrom cells scope.names []).lookup y = some c := mem_lookup (cloFrom_has (cells := cells) (acc := []) (PySem.mem_of_lookup e))
end XL
namespace DL
open PySem PySem.Spec PyProof.Rows L2 LamX RZ RD RE TL XE XA XB XC XD XK XL
theorem CelV.at_ : ∀ {cl : Cels} {vs : List V} {k : Nat} {v : V}, CelV cl vs → vs[k]? = some v → ∃ p, cl[k]? = some p ∧ ∃ u, p.2.data = .cell (some u) ∧ RelV v u
  | _, _, 0, v, .cons h _, e => by cases e; exact ⟨_, rfl, h⟩
  | _, _, k + 1, v, .cons _ h, e => CelV.at_ (k := k) h e
theorem CelOf.atK {cells : List (Str × Addr)} : ∀ {ys : List (Nat × Str)} {cl : Cels} {vs : List V} {k : Nat} {y : Nat × Str} {p : Addr × Obj}, CelOf cells ys cl vs → ys[k]? = some y → cl[k]? = some p → cells.lookup y.2 = some p.1
  | _ :: _, _ :: _, _ :: _, 0, _, _, h, e1, e2 => by cases e1; cases e2; exact h.1
  | _ :: _, _ :: _, _ :: _, k + 1, _, _, h, e1, e2 => CelOf.atK (k := k) h.2.2 e1 e2
  | [], _, _, _, _, _, _, e1, _ => by cases e1
  | _ :: _, [], _, _, _, _, h, _, e2 => by cases e2
  | _ :: _, _ :: _, [], _, _, _, h, _, _ => h.elim
theorem slo_env {K : PySem.W.Frag} {M : List Addr} {H : Hp} (n : Nat) : ∀ {ys : List (Nat × Str)} {vs : List V} {ds : List D}, ys.length = vs.length → DenAll K (hid M H) ds vs → EnvOk K M H (slo n ys vs) (slo n ys ds)
  | y :: ys, v :: vs, d :: ds, hl, h => by
    cases h with
    | cons h1 h2 =>
      unfold slo
      exact (slo_env n (ys := ys) (by simpa using hl) h2).set h1
  | [], [], [], _, _ => by
    unfold slo
    refine ⟨by rw [List.length_replicate, List.length_replicate], fun i d e => ?_⟩
    rw [List.getElem?_replicate] at e
    split at e <;> cases e
  | _ :: _, _ :: _, [], _, h => by cases h
  | _ :: _, [], _, hl, _ => by simp at hl
  | [], _ :: _, _, hl, _ => by simp at hl
  | [], [], _ :: _, _, h => by cases h
section
variable {P : Program} {w : World} {K : PySem.W.Frag} {mg : Str → Option Value} {base : Heap}
theorem act_cap {B : Bx} {cs : List Value} {q : Str} {params : Arguments} {body : Expr} {scope : Scope} {cells : List (Str × Addr)} {b : Bool} {dV pm ctv : Value} {c' : Addr} {ys : List (Nat × Str)} {cl : Cels} {ds : List D} {N : List Str} {t : XK → TE} {PP : D → Prop} {H0 : Hp} (cap : CapB scope N ys) (bp : LamP params scope b) (inj : InjC cells) (co : ∃ vs, CelOf cells ys cl vs) (df : DefAt H0 b dV)
    (hbody : ∀ (A : Around) (outer : List Env) (s : Shared) (H : Hp) (E : XK) (f c' : Addr), Room 20 (A.deeper (PySem.W.envX q scope s.heap.objs.size f (.ref c') (cloFrom cells scope.names []))) → PE (lamCxV P w K mg base N A outer s H E q scope f c' (cloFrom cells scope.names [])) body (t E))
    (h : ∀ B' : Bx, Box' B B' → B'.PX = gotX K cs PP → Ev K B' (t B'.E) (slo N.length ys ds) fun d => PP (.tup [.str "", d])) : ActD P w K mg base B cs (lamOb q params body scope (cloFrom cells scope.names []) dV pm (.ref c') ctv) c' q cl ds PP := by
  obtain ⟨vs0, co⟩ := co
  have hfree : ∀ y ∈ scope.names, y.2 = .free → ∃ c, cells.lookup y.1 = some c := fun y hy e => by
    obtain ⟨z, hz, ez⟩ := List.mem_map.mp (cap.free y hy e)
    obtain ⟨p, _, e1, _⟩ := co.of z hz
    exact ⟨p.1, by rw [← ez]; exact e1⟩
  have L : LamW scope (cloFrom cells scope.names []) := ⟨cap.kind, cap.co, cap.gen, cap.own, fun x y c e1 e2 => inj x y c (clo_cm hfree e1).1 (clo_cm hfree e2).1, fun x e => clo_has e⟩
  have hcl : ∀ y c, (cloFrom cells scope.names []).lookup y = some c → ∃ o v, cl.lookup c = some o ∧ o.data = .cell v := fun y c e => by
    obtain ⟨e1, e2⟩ := clo_cm hfree e
    obtain ⟨z, hz, ez⟩ := List.mem_map.mp (cap.free _ e2 rfl)
    have ez : z.2 = y := ez
    obtain ⟨p, hp, e3, u, hu⟩ := co.of z hz
    rw [ez, e1] at e3
    cases e3
    exact ⟨p.2, some u, co.look inj cap.nd p hp, hu⟩
  have hσ : ∀ vs, CelV cl vs → vs.length = ys.length → CelS N scope (cloFrom cells scope.names []) cl (slo N.length ys vs) := fun vs hv hl i y v hN hs vis => by
    obtain ⟨k, z, h1, h2, h3⟩ := slo_get hs
    obtain ⟨p, h4, u, h5, h6⟩ := hv.at_ h3
    obtain ⟨n1, n2⟩ := cap.at_ z (List.mem_of_getElem? h1)
    rw [h2, hN] at n1
    cases n1
    have fr : scope.names.lookup z.2 = some .free := by
      rcases vis with e | e | e
      · exact absurd e n2
      · exact absurd rfl (cap.own _ (PySem.mem_of_lookup e))
      · exact e
    obtain ⟨c, hc⟩ := clo_has (cells := cells) fr
    have e1 := (clo_cm hfree hc).1
    rw [CelOf.atK co h1 h4] at e1
    cases e1
    exact ⟨p.1, u, p.2, fr, hc, co.look inj cap.nd p (List.mem_of_getElem? h4), h5, h6⟩
  refine ⟨fun E H Q => ∃ vs, CelV cl vs ∧ vs.length = ys.length ∧ Cov cl H ∧ DefAt H b dV ∧ t (fun cls d H' => Offn cl H' → E cls d (trk cl H')) (slo N.length ys vs) (utr cl H) fun v H' => Offn cl H' → Q v (trk cl H'), ⟨⟨_, rfl⟩, fun A outer s H Q E f hr e0 hf hc ⟨vs, hv, hl, z⟩ => ?_⟩, fun B' M H vs E Q bx px hE cov hdef g dn hv hq => ?_⟩
  · exact (act_lam (N := N) (σ := slo N.length ys vs) L bp hcl (slo_len _ _ _) (hσ vs hv hl) hbody).run A outer s H Q E f hr e0 hf hc z
  · have hl : vs.length = ys.length := by
      have := co.len.1
      have h2 : ∀ {cl : Cels} {vs : List V}, CelV cl vs → cl.length = vs.length := fun h => Paired.length h
      rw [← h2 hv, this]
    refine ⟨vs, hv, hl, cov, df.of hdef, ?_⟩
    rw [← hE]
    exact h B' bx px M (slo N.length ys vs) (utr cl H) _ g (slo_env _ hl.symm dn) fun v H' d r p dn' of => hq v H' d r p dn' of
/-- the names' data -/
def SloG (Γ : Gam) : List (Nat × Str) → List D → Prop
  | [], [] => True
  | y :: ys, d :: ds => Γ[y.1]? = some (some d) ∧ SloG Γ ys ds
  | _, _ => False
theorem sloG_at {M : List Addr} {H : Hp} {σ : L2.St} {Γ : Gam} (x : EnvOk K M H σ Γ) : ∀ {ys : List (Nat × Str)} {ds : List D}, SloG Γ ys ds → ∃ vs, SloV σ ys vs ∧ DenAll K (hid M H) ds vs
  | [], [], _ => ⟨[], True.intro, .nil⟩
  | y :: ys, d :: ds, h => by
    obtain ⟨vs, h1, h2⟩ := sloG_at x h.2
    obtain ⟨v, h3, h4⟩ := x.at_ _ _ h.1
    exact ⟨v :: vs, ⟨h3, h1⟩, .cons h4 h2⟩
  | [], _ :: _, h => h.elim
  | _ :: _, [], h => h.elim
/-- x(e), e a list of lambdas that keep the names ys -/
theorem ev_trk {B : Bx} {Γ : Gam} {cells : List (Str × Addr)} {ys : List (Nat × Str)} {ds : List D} {te : TE} {F : Bx → List D → (D → Prop) → Prop} {PP : D → Prop} (nd : (ys.map (·.2)).Nodup) (hΓ : SloG Γ ys ds)
    (h : Ev K B te Γ fun d => ∃ raws : List (Obj × Addr × Str), d = .lst (raws.map fun r => .fn r.1 r.2.1 r.2.2 [] []) ∧ ∀ cl, (∃ vs, CelOf cells ys cl vs) → InjC cells → F B [.lst (raws.map fun r => .fn r.1 r.2.1 r.2.2 cl ds)] fun d => noFn d = true ∧ PP d) :
    Ev K B (tTrk cells ys (SpD K 1 F) (tCons te tNil)) Γ PP := fun M σ H Q g x k => by
  refine h M σ H _ g x fun v H1 d r1 ⟨raws, e, hF⟩ dn => ?_
  subst e
  have g1 := g.r r1
  obtain ⟨vs, hv, dv⟩ := sloG_at (x.r g r1) hΓ
  refine ⟨vs, hv, fun cl co inj of => ?_⟩
  have r3 : R K B H1 (trk cl H1) := R.ofSub g1 (trk_sub of)
  have g3 := g1.r r3
  have nin : ∀ {a : Addr}, H1 a ≠ none → cl.lookup a = none := fun {a} n => by
    rcases cel_or cl a with ⟨o, z⟩ | z
    · exact absurd (of a o z) n
    · exact z
  have each : ∀ (rs : List (Obj × Addr × Str)) (xs : List V), DenAll K (hid M H1) (rs.map fun r => .fn r.1 r.2.1 r.2.2 [] []) xs → DenAll K (hid M (trk cl H1)) (rs.map fun r => .fn r.1 r.2.1 r.2.2 cl ds) xs := by
    intro rs
    induction rs with
    | nil => intro xs h; cases h; exact .nil
    | cons r rs ih =>
      intro xs h
      cases h with
      | cons h1 h2 =>
        refine .cons ?_ (ih _ h2)
        cases h1 with
        | fn a1 a2 a3 a4 a5 a6 =>
          refine .fn (g1.sub' r3 _ _ a1) (g1.sub' r3 _ _ a2) (fun p m => ?_) co.v (g1.dens r3 dv) (a6.sub fun a xs e => g1.sub' r3 _ _ e)
          have lk := co.look inj nd p m
          exact hid_of (fun mm => (g1.there _ mm).1 (of _ _ lk)) (trk_in lk)
  have dn3 : Den K (hid M (trk cl H1)) (.lst (raws.map fun r => .fn r.1 r.2.1 r.2.2 cl ds)) v := by
    cases dn with
    | lst h1 h2 => exact .lst (g1.sub' r3 _ _ h1) (each _ _ h2)
  refine ⟨rfl, B, M, _, _, g3, .cons dn3 .nil, hF cl ⟨vs, co⟩ inj, fun v' H' d' r4 ⟨nf, p⟩ dn' => ?_⟩
  have keep : ∀ {a : Addr} {u : HO}, H1 a = some u → cl.lookup a = none := fun e => nin (by rw [e]; exact fun z => by cases z)
  have hbn : cl.lookup B.b = none := nin (g1.there _ g1.mem).1
  have htn : cl.lookup B.t = none := nin (g1.there _ g1.memt).1
  have hln : cl.lookup B.l = none := nin (g1.there _ g1.meml).1
  have cov : Cov cl H' := fun b o z => r4.two b _ (trk_in z) ⟨fun e => (by rw [e, hbn] at z; cases z), fun e => by rw [e, htn] at z; cases z⟩
  refine k v' (utr cl H') d' (r1.trans ⟨?_, fun a o e na => ?_, fun t => ?_⟩) p (Den.noFn (fun b o e n => ?_) d' v' nf dn')
  · obtain ⟨zs, i, r0, m, c0, b1, b2, b3, b4⟩ := r4.box
    exact ⟨zs, i, r0, m, c0, by rw [utr_out hbn]; exact b1, b2, by rw [utr_out hln]; exact b3, b4⟩
  · rw [utr_out (keep e)]
    exact r4.two a o (trk_sub of a o e) na
  · refine (r4.tb (r3.tb t)).imp id fun ⟨ps, t1, t2, t3⟩ => ⟨ps, cov.utr_keep t1 (fun _ z => by cases z), t2, fun pos cv hcv => ?_⟩
    obtain ⟨c0, e1, e2⟩ := t3 pos cv hcv
    exact ⟨c0, e1, cov.utr_keep e2 fun _ z => by unfold CodeO at z; cases z⟩
  · obtain ⟨nm, e⟩ := hid_get e
    exact hid_of nm (cov.utr_keep e n)
end
end DL

set_option maxHeartbeats 4000000
/-! the same where the frame is bound -/
namespace XL
open PySem PySem.Spec PyProof.Rows L2
theorem call_lenD {X : Cx} (K : PySem.W.Frag) (hK : X.K = K := by rfl) : CallR X (.builtin "len") (fun xs H Q => ∃ x n, xs = [x] ∧ LenV K x H n ∧ Q (.int n) H) := by
  subst hK; exact call_len
theorem call_tuple_ofK {X : Cx} (K : PySem.W.Frag) (hK : X.K = K := by rfl) : CallR X (.type "tuple") (fun xs H Q => ∃ p ys, xs = [.ref p] ∧ ((SqL K H p ys ∧ ∀ l, H l = none → Q (.ref l) (upd H l (.tup ys))) ∨ (SqT K H p ys ∧ Q (.ref p) H))) := by
  subst hK; exact call_tuple_of
theorem call_list_ofK {X : Cx} (K : PySem.W.Frag) (hK : X.K = K := by rfl) : CallR X (.type "list") (fun xs H Q => ∃ p ys, xs = [.ref p] ∧ (SqL K H p ys ∨ SqT K H p ys) ∧ ∀ l, H l = none → Q (.ref l) (upd H l (.lst ys))) := by
  subst hK; exact call_list_of
end XL

set_option maxHeartbeats 4000000
/-! xs[::e], e 1 or -1 -/
namespace XP
open PySem PySem.Spec PyProof PyProof.Rows L2
section
variable {X : Cx} {e es : Expr} {te ts : TE} {pos p2 : Pos}
def tRv (K : PySem.W.Frag) (te : TE) (ts : TO) : TE := fun σ H Q => te σ H fun x H1 => ts σ H1 fun st H2 => ∃ a xs, x = .ref a ∧ SqL K H2 a xs ∧
  ((st = some 1 ∧ ∀ p, H2 p = none → Q (.ref p) (upd H2 p (.lst xs))) ∨ (st = some (-1) ∧ ∀ p, H2 p = none → Q (.ref p) (upd H2 p (.lst xs.reverse))))
theorem pick1 (items : Array Value) : slicePick items none none (some 1) = items := by
  rw [show slicePick items none none (some 1) = slicePick items none none none from rfl, slicePick_all]
theorem valsRev : ∀ {xs : List V} {us : List Value}, Vals xs us → Vals xs.reverse us.reverse := by
  intro xs us h
  induction h with
  | nil => exact .nil
  | cons r t ih =>
    rw [List.reverse_cons, List.reverse_cons]
    exact ih.append (.cons r .nil)
theorem pe_rv (he : PE X e te) {ts : TO} (hs : PO X (some es) ts) : PE X (.Subscript e (.Slice none none (some es) p2) pos) (tRv X.K te ts) := by
  refine ⟨fun pins s σ H Q I h => ?_⟩
  refine Subscript_ (thn (he.run pins s σ H _ I h) fun v s1 ⟨x, H1, I1, r1, q1⟩ => ?_)
  refine wpAny_Slice ?_
  rw [evalPart_none]
  refine wpAny_pure ?_
  refine wpAny_pure ?_
  refine thn (hs.run pins s1 σ H1 _ I1 q1) fun vs s2 ⟨st, H2, I2, ps, a, xs, ex, hx, q2⟩ => ?_
  subst ex
  cases r1
  have I4 : Inv X pins σ H2 { s2 with heap := s2.heap.push { cls := .type "slice", data := .fields #[.none, .none, vs] } } := I2.kept (t' := s2.toks) fun b ob q => Heap.get?_push_of_some _ q
  obtain ⟨its, r, ht, hz⟩ := I4.list hx
  have hlen := r.length
  have hsl : ({ s2 with heap := s2.heap.push { cls := .type "slice", data := .fields #[.none, .none, vs] } } : Shared).heap.IsSliceOf s2.heap.objs.size .none .none vs := Heap.IsSliceOf.new ..
  show wpAny (model X.prog X.w) X.A (subscriptTail e (.Slice none none (some es) p2) _ (.ref s2.heap.objs.size)) (EP X pins σ Q) X.xe { s2 with heap := s2.heap.push { cls := .type "slice", data := .fields #[.none, .none, vs] } }
  refine tail_any (ops := [.ref a, .ref s2.heap.objs.size]) ht.isList.typeIs slot_list_getitem.lookup ?_ (by with_unfolding_all rfl)
  rcases q2 with ⟨rfl, q2⟩ | ⟨rfl, q2⟩
  · refine wpAny_getItem_list_slice ht.isList hsl .none .none ps (by decide) ?_ (by rw [List.size_toArray] <;> omega)
    rw [pick1]
    refine ⟨.ref _, _, I4.laid (t' := s2.toks) (o := .lst xs) (fun b ob q => Heap.get?_push_of_some _ q) (Nat.le_refl _) ?_, rfl, q2 _ (I4.hok.fresh (Nat.le_refl _))⟩
    exact ⟨hz, _, 0, r, Heap.get?_push_size _ rfl⟩
  · refine wpAny_getItem_list_slice ht.isList hsl .none .none ps (by decide) ?_ (by rw [List.size_toArray] <;> omega)
    rw [show slicePick its.toArray none none (some (-1)) = its.reverse.toArray from by rw [PySem.W.krv_pick]]
    refine ⟨.ref _, _, I4.laid (t' := s2.toks) (o := .lst xs.reverse) (fun b ob q => Heap.get?_push_of_some _ q) (Nat.le_refl _) ?_, rfl, q2 _ (I4.hok.fresh (Nat.le_refl _))⟩
    exact ⟨by rw [List.length_reverse]; exact hz, _, 0, valsRev r, Heap.get?_push_size _ rfl⟩
end
end XP
namespace DL
open L2
section
variable {K : PySem.W.Frag} {B : Bx} {Γ : Gam} {ta : TE} {ts : TO} {P : D → Prop}
theorem DenAll.rev {H : Hp} : ∀ {ds : List D} {vs : List V}, DenAll K H ds vs → DenAll K H ds.reverse vs.reverse
  | _, _, .nil => .nil
  | _, _, .cons h t => by rw [List.reverse_cons, List.reverse_cons]; exact (DenAll.rev t).app (.cons h .nil)
theorem ev_rv (h : Ev K B ta Γ fun d => ∃ ds, d = .lst ds ∧ EvO K B ts Γ fun st => (st = some 1 ∧ P (.lst ds)) ∨ (st = some (-1) ∧ P (.lst ds.reverse))) : Ev K B (XP.tRv K ta ts) Γ P := fun M σ H Q g x q =>
  h M σ H _ g x fun v H1 d r ⟨ds, e, p⟩ dn => by
    subst e
    exact p M σ H1 _ (g.r r) (x.r g r) fun st H2 r2 p2 => by
      have g2 := (g.r r).r r2
      have dn2 := (g.r r).den r2 dn
      cases dn2 with
      | @lst _ zs _ a1 a2 =>
        refine ⟨_, _, rfl, SqL.of (hid_get a1).2, ?_⟩
        rcases p2 with ⟨e, p2⟩ | ⟨e, p2⟩
        · refine .inl ⟨e, fun p hp => ?_⟩
          have r4 := g2.new (o := .lst zs) hp
          exact q _ _ _ ((r.trans r2).trans r4) p2 (.lst (hid_of (g2.fresh hp) upd_same) (g2.dens r4 a2))
        · refine .inr ⟨e, fun p hp => ?_⟩
          have r4 := g2.new (o := .lst zs.reverse) hp
          exact q _ _ _ ((r.trans r2).trans r4) p2 (.lst (hid_of (g2.fresh hp) upd_same) (g2.dens r4 a2.rev))
theorem eg_trip {i j l : Nat} {vs : List Nat} {d e f : D} {P : Gam → Prop} (hi : i ∈ vs) (hj : j ∈ vs) (hl : l ∈ vs) (p : P (((Γ.set i (some d)).set j (some e)).set l (some f))) : EvG K B (gTup K 3 (gCons (gName i) (gCons (gName j) (gCons (gName l) gNil)))) vs Γ (.tup [d, e, f]) P := fun M σ H v Q g x dn q => by
  cases dn with
  | tup h1 h2 =>
    cases h2 with
    | cons d1 h2 =>
      cases h2 with
      | cons d2 h2 =>
        cases h2 with
        | cons d3 h2 =>
          cases h2
          refine ⟨_, _, rfl, SqT.sub hid_sub h1, rfl, _, _, rfl, _, _, rfl, _, _, rfl, rfl, ?_⟩
          refine q _ _ p (((x.set d1).set d2).set d3) (by rw [List.length_set, List.length_set, List.length_set]) fun k hk => ?_
          rw [List.getElem?_set_ne (fun z => hk (by rw [← z]; exact hl)), List.getElem?_set_ne (fun z => hk (by rw [← z]; exact hj)), List.getElem?_set_ne (fun z => hk (by rw [← z]; exact hi))]
end
end DL

set_option maxHeartbeats 4000000
/-! defs that change what they own, and may raise -/
namespace DL
open PySem PySem.Spec PyProof.Rows L2 RZ RD RE XE XA XB XC
section
variable {K : PySem.W.Frag} {B : Bx} {H0 H H1 : Hp} {M M0 : List Addr} {Γ : Gam} {Ω : Own} {n : Nat}
/-- raise C(..) -/
theorem rw_raise {P : Pso} {W : WX} {C : Addr} {ns : List Str} {F : Bx → List D → (List D → Prop) → Prop} {ta : TA} (hW : ∀ cls d σ H, W cls d σ H = B.E cls d H) (h : EvA K B ta Γ fun ds => ds.length = n ∧ n ≤ 1000 ∧ F B ds fun es => B.PX C ns es) :
    Rw K B (fun _ σ H => tRx C (SpXn K C n ns F) ta σ H fun cls d H' => W cls d σ H') H0 M0 Γ Ω P := fun σ H E s x _ _ _ _ =>
  rn_raise (Pn := { nx := fun _ => False, rt := fun _ => False, bk := fun _ => False, ct := fun _ => False }) hW h (keysO Ω ++ M0) σ H E s.good x (fun _ _ _ _ p => p.elim) (fun _ _ _ _ p => p.elim) (fun _ _ _ _ p => p.elim) (fun _ _ _ _ p => p.elim)
/-- .., its arguments reading what is owned -/
theorem rw_raiseC {P : Pso} {W : WX} {C : Addr} {ns : List Str} {F : Bx → List D → (List D → Prop) → Prop} {ta : TA} {i j : Nat} {p : Addr} {d : Cell} (hi : Γ[i]? = some (some (.obj p))) (hj : Ω[j]? = some (p, d)) (hW : ∀ cls d σ H, W cls d σ H = B.E cls d H) (h : EvA K B ta (Γ.set i (some (cellD d))) fun ds => ds.length = n ∧ n ≤ 1000 ∧ F B ds fun es => B.PX C ns es) :
    Rw K B (fun _ σ H => tRx C (SpXn K C n ns F) ta σ H fun cls d H' => W cls d σ H') H0 M0 Γ Ω P := fun σ H E s x _ _ _ _ =>
  rn_raise (Pn := { nx := fun _ => False, rt := fun _ => False, bk := fun _ => False, ct := fun _ => False }) hW h (keysO (Ω.eraseIdx j) ++ M0) σ H E s.lessGood (s.lendC x hi hj) (fun _ _ _ _ p => p.elim) (fun _ _ _ _ p => p.elim) (fun _ _ _ _ p => p.elim) (fun _ _ _ _ p => p.elim)
theorem run_ownE {N : List Str} {ds : List D} {vs : List V} {Q : VK} {E : XK} {P : D → Prop} {PX : Addr → List Str → List D → Prop} {ts : TS} (g : Good K B M H) (hd : DenAll K (hid M H) ds vs) (q : ∀ v H' d, R K B H H' → P d → Den K (hid M H') d v → Q v H')
    (qx : ∀ H' C dx ns us es, R K B H H' → H dx = none → H' dx = some (.xd (ns.zip us)) → ns.length = us.length → DenAll K (hid M H') es us → PX C ns es → E (.ref C) (some dx) H')
    (h : ∀ B' : Bx, Box' B B' → B'.E = E → B'.PX = PX → Rw K B' ts H M (startG N.length ds) [] { nx := fun _ _ => P .non, rt := P }) : ts { nx := fun _ H' => Q .non H', rt := Q } (L2.start N vs) H := by
  have g' : Good K { B with H0 := H, M0 := M, E := E, PX := PX } M H := ⟨g.mem, g.meml, g.memt, g.box, g.tb, g.there, fun _ _ e _ => e, fun _ m => m, fun H' C dx ns us es bx tb fr n0 e ln dn px => qx H' C dx ns us es ⟨bx, fun a o h na => fr a o h ⟨na.b, na.t⟩, fun _ => tb⟩ n0 e ln dn px⟩
  have rr : ∀ {H'}, R K { B with H0 := H, M0 := M, E := E, PX := PX } H H' → R K B H H' := fun r => ⟨r.box, fun a o h na => r.two a o h ⟨na.b, na.t⟩, r.tb⟩
  exact run_own (B := { B with H0 := H, M0 := M, E := E, PX := PX }) g' hd (fun v H' d r p dn => q v H' d (rr r) p dn) (h _ ⟨rfl, rfl, rfl, rfl⟩ rfl rfl)
end
end DL

set_option maxHeartbeats 4000000
/-! except C as n: a suite that raises from None -/
namespace XR
open PySem PySem.Spec PyProof.Rows L2 L2H HotX XE XA XB XC
theorem sky_imp {B : Heap} {l : List Env} {a L : Addr} {Z Z' : Obj → Prop} {h : Heap} (z : ∀ o, Z o → Z' o) (x : Sky B l a Z L h) : Sky B l a Z' L h := by
  rcases x with ⟨x1, x2, x3, oe, vs, x4, x5, x6⟩ | x | ⟨x1, x2, x3, x4⟩
  · exact .inl ⟨x1, x2, x3, oe, vs, x4, z _ x5, x6⟩
  · exact .inr (.inl (flyingZ_imp z x))
  · exact .inr (.inr ⟨x1, x2, x3, tracedZ_imp z x4⟩)
theorem takesN_of {X : Cx} {W : WX} (t : L2.Takes X W) : L2N.Takes X W := fun u s' ⟨a, B, sI, pins, σ, H, cls, d, e, I, nb, up, sky, na, os, ag, w⟩ => t u s' ⟨a, B, sI, pins, σ, H, cls, d, e, I, nb, up, sky_imp (fun _ z => z.zc) sky, na, os, ag, w⟩
theorem passAtN {X : Cx} {W : WX} (tk : L2.Takes X W) (σ : L2.St) : PassesAt (L2N.CX X.prog X.w) X σ (L2.WE W σ) := L2N.passAt (takesN_of tk) σ
theorem passTk2 {X : Cx} {W : WX} {E : XK} (tk : L2.Takes X W) (h : ∀ cls d σ H, E cls d H → W cls d σ H) : Passes (L2.CX X.prog X.w) X E := fun pins σ H s e s' I c => tk e s' (L2.XE.of_call I (fun cls d H' z => h cls d σ H' z) c)
/-- as okN, for a def whose exceptions may have a context -/
theorem okH {P : Program} {w : World} {K : PySem.W.Frag} {mg : Str → Option Value} {base : Heap} {x qual : Str} {st : Stmt} {f : Addr} {fd : FuncData} {N ps : List Str} {k : Nat} {sp : Sp} (F : Fun K x qual st f fd) (S : FnScope N ps (defScope st)) (len : ∀ vs H Q E, sp vs H Q E → vs.length = ps.length)
    (hbody : ∀ (cdv : Value) (A : Around) (outer : List Env) (s : Shared) (H : Hp) (vs : List V) (Q : VK) (E : XK), Room k (A.deeper (envOfC qual (defScope st) s.heap.objs.size f cdv)) → sp vs H Q E →
      ∃ t, PSs (cxOf (L2.CX P w) P w K mg base N qual (defScope st) f cdv A outer s H E) (defBody st) t ∧ t { nx := fun _ H' => Q .non H', rt := Q } (L2.start N vs) H) : FnOk P w K mg base (L2.CX P w) (k + 1) f fd ps sp := by
  obtain ⟨oc, od, kV, doc, pm, an, cdv, ct, osl, rfl, lk, hcd⟩ := F.ex
  exact fn_of lk hcd S len fun A outer s H vs Q E hr hsp => hbody cdv A outer s H vs Q E hr hsp
/-! ### an exception is held while the clause's name goes -/
theorem funFrames_but {B h h' : Heap} {L : Addr} (sb : Heap.SameBut L h h') (hn : ∃ o, h'.get? L = some o ∧ ∀ vs, o.data ≠ .fields vs) : ∀ {l : List Env}, h.FunFrames B l → h'.FunFrames B l
  | [], _ => trivial
  | env :: l, ⟨hk, ⟨M, o, hf, hb, ho, hd⟩, hr⟩ => by
    refine ⟨hk, ?_, funFrames_but sb hn hr⟩
    by_cases e : M = L
    · subst e
      obtain ⟨o', h1, h2⟩ := hn
      exact ⟨M, o', hf, hb, h1, h2⟩
    · exact ⟨M, o, hf, hb, (sb.2 M e).trans ho, hd⟩
theorem held_but {B h h' : Heap} {l : List Env} {a L : Addr} {Z : Obj → Prop} (x : HandSPX.HeldZ B l a Z L h) (sb : Heap.SameBut L h h') (hL : L ∈ frs l) (hn : ∃ o, h'.get? L = some o ∧ ∀ vs, o.data ≠ .fields vs) : HandSPX.HeldZ B l a Z L h' := by
  obtain ⟨x1, x2, x3, oe, vs, T, oT, ts, y1, y2, y3, y4, y5, y6, y7, y8, y9⟩ := x
  obtain ⟨nB, oL, eL, nf⟩ := x3.mem hL
  have na : a ≠ L := fun z => by rw [z, eL] at y1; cases y1; exact nf _ y3
  have nT : T ≠ L := fun z => by rw [z, eL] at y7; cases y7; exact nf _ y8
  refine ⟨fun b o e => ?_, x2, funFrames_but sb hn x3, oe, vs, T, oT, ts, (sb.2 a na).trans y1, y2, y3, y4, y5, y6, (sb.2 T nT).trans y7, y8, y9⟩
  have nb : b ≠ L := fun z => by rw [z, nB] at e; cases e
  exact (sb.2 b nb).trans (x1 b o e)
theorem Sky.noted {M : Model} {A : Around} {E₁ : Value → Shared → Prop} {env : Env} {outer : List Env} {L a : Addr} {Z : Obj → Prop} {B : Heap} {s : Shared} {Q : Unit → Shared → Prop} (hZ : HandSPX.Steady Z) (hfr : A.frames = some (env :: outer)) (hf : env.frame = some L)
    (x : Sky B (env :: outer) a Z L s.heap) (hQ : ∀ h', HandSPX.HeldZ B (env :: outer) a Z L h' → s.heap.UpToSlots h' → Q () { s with heap := h' }) : wpAny M A (noteFrame (.ref a) env) Q E₁ s := by
  rcases x with ⟨hB, hn, hl, oe, vs, he, hz, hd, h1⟩ | fl | hh
  · exact HandSPX.look_newZ hZ hfr hl hf he hB hn hd h1 hz hQ
  · exact HandSPX.looks_onZ hZ hfr hf fl hQ
  · exact HandSPX.againZ hf hh.2.2.2 (hQ s.heap hh (Heap.UpToSlots.refl _))
/-- the context of a suite that may raise, xe: what is wished of what it raises -/
abbrev suiteY (X : Cx) (a : Addr) (pn : List (Addr × Obj)) (xe : Value → Shared → Prop) : Cx := { X with A := X.A.mark (some (.ref a)), calm := false, pn := pn, xe := xe }
section
variable {X : Cx} {pins : List (Addr × Obj)} {σ : L2.St} {H : Hp} {s : Shared}
theorem suiteY_of {a : Addr} {pn pn' : List (Addr × Obj)} {xe : Value → Shared → Prop} (I : Inv (X.suite a pn) pn' σ H s) : Inv (suiteY X a pn xe) pn' σ H s := Inv.unwish (X := suiteY X a pn xe) (E := fun _ _ => False) I
theorem unsuiteY {a : Addr} {q : Addr × Obj} {pn' : List (Addr × Obj)} {xe : Value → Shared → Prop} (I : Inv (suiteY X a (q :: (X.pn ++ pins)) xe) pn' σ H s) (ok : X.Ok) : Inv X pins σ H s :=
  Inv.unsuite (X := X) (a := a) (q := q) (pn' := pn') (show Inv (X.suite a (q :: (X.pn ++ pins))) pn' σ H s from I.wish fun _ _ => False) ok
end
theorem as_raised {X : Cx} {W : WX} {pins : List (Addr × Obj)} {a : Addr} {q : Addr × Obj} {i : Nat} {n : Str} {pos : Pos} {xe : Value → Shared → Prop} (hs : X.stack = X.env :: X.outer) (hf : X.env.frame = some X.env.locals) (hN : X.N.Nodup) (hi : X.N[i]? = some n) (hln : X.env.kindOf n = some .local) (tk : L2.Takes X W)
    (hpa : ∀ hd : Option Value, PassesOwnAt (model X.prog X.w) (X.A.mark hd) X.A X.env X.xe) (ok : X.Ok) (u : Value) (s' : Shared) (x : L2.XE (suiteY X a (q :: (X.pn ++ pins)) xe) (fun cls d σ H => W cls d (σ.set i none) H) u s') :
    AsSuiteRaised (model X.prog X.w) (X.A.mark (some (.ref a))) X.env n pos (notedBy (model X.prog X.w) (X.A.mark (some (.ref a))) X.env (cameBackBy (model X.prog X.w) X.A X.env X.xe)) u s' := by
  obtain ⟨a2, B, sI, pn2, σ, H, cls, d, rfl, I, nb, up, sky, na, os, ag, w⟩ := x
  have J : Inv X pins σ H sI := unsuiteY I ok
  have nb : ∀ b o, sI.heap.get? b = some o → b ∉ frs X.stack → B.get? b = some o := nb
  have sky' : Sky B (X.env :: X.outer) a2 (Zc cls d) X.env.locals s'.heap := by rw [← hs]; exact sky
  have hfr : (X.A.mark (some (.ref a))).frames = some (X.env :: X.outer) := by rw [← hs]; exact ok.frames
  have hL : X.env.locals ∈ frs (X.env :: X.outer) := List.mem_filterMap.mpr ⟨X.env, List.mem_cons_self, hf⟩
  have hL' : X.env.locals ∈ frs X.stack := by rw [hs]; exact hL
  obtain ⟨m, hn, hlk⟩ := id J.loc
  have hcls : (X.env.scope.kind == .class || (X.env.scope.kind == .module && X.env.locals != X.env.globals)) = false := by rw [ok.kind]; rfl
  show wpAny _ _ (noteFrame (.ref a2) X.env) _ _ _
  refine Sky.noted Zc.steady hfr hf sky' fun h3 hh3 up3 => ?_
  have up13 := up.trans up3
  refine wpAny_nameGoes_keeps hln (up13.ns hn) hcls fun h4 v hn4 sb => ?_
  obtain ⟨oL, es, ep, hoL, hdL, hrL⟩ := id hn4
  have nfL : ∃ o, h4.get? X.env.locals = some o ∧ ∀ vs, o.data ≠ .fields vs := ⟨oL, hoL, fun vs z => by rw [hdL] at z; cases z⟩
  have hh4 : HandSPX.HeldZ B (X.env :: X.outer) a2 (Zc cls d) X.env.locals h4 := held_but hh3 sb hL nfL
  obtain ⟨_, _, _, oe, vs, T, oT, ts, he, hz, hd, h1, _⟩ := id hh4
  unfold PySem.passOn
  refine wpAny_bind (wpAny_field he hd h1 ?_)
  rw [if_neg (show ¬ ((Value.ref T == Value.none) = true) from by simp)]
  have fin : wpAny (model X.prog X.w) (X.A.mark (some (.ref a))) (setFlight (.ref a2) X.env.frame) (fun _ s4 => wpAny (model X.prog X.w) (X.A.mark (some (.ref a))) (throw (.ref a2) : Sem Flow) (fun _ _ => False) (notedBy (model X.prog X.w) (X.A.mark (some (.ref a))) X.env (cameBackBy (model X.prog X.w) X.A X.env X.xe)) s4)
      (notedBy (model X.prog X.w) (X.A.mark (some (.ref a))) X.env (cameBackBy (model X.prog X.w) X.A X.env X.xe)) { s' with heap := h4, toks := s'.toks + 1 } := by
    rw [hf]
    refine HandSPX.setFlight_onZ hh4 fun h5 hh5 up5 => wpAny_throw (hpa (some (.ref a)) _ _ (tk _ _ ?_))
    have fr5 := hh5.2.2.1
    obtain ⟨G, g1, g2⟩ := restrict h5 fun b => (B.get? b).isSome || decide (b ∈ frs X.stack)
    have gB : ∀ b o, B.get? b = some o → G.get? b = some o := fun b o e => by
      rw [g1 b (by simp [e])]
      exact hh5.1 b o e
    have gF : ∀ b, b ∈ frs X.stack → G.get? b = h5.get? b := fun b hb => g1 b (by simp [hb])
    have og : ∀ b o, G.get? b = some o → h5.get? b = some o ∧ ((B.get? b).isSome = true ∨ b ∈ frs X.stack) := fun b o e => by
      cases q : ((B.get? b).isSome || decide (b ∈ frs X.stack)) with
      | false => rw [g2 b q] at e; cases e
      | true =>
        rw [g1 b q] at e
        exact ⟨e, by simpa [Bool.or_eq_true] using q⟩
    have anyG : ∀ b o, sI.heap.get? b = some o → b ≠ X.env.locals → ∃ sl, G.get? b = some { o with slots := sl } := fun b o e nL => by
      by_cases hb : b ∈ frs X.stack
      · obtain ⟨_, o', e', nf⟩ := J.stack.mem hb
        rw [e] at e'; cases e'
        obtain ⟨sl3, e3⟩ := up13 b o e nf
        have e4 : h4.get? b = some { o with slots := sl3 } := (sb.2 b nL).trans e3
        obtain ⟨sl5, e5⟩ := up5 b _ e4 nf
        exact ⟨sl5, by rw [gF b hb]; exact e5⟩
      · exact ⟨o.slots, gB b o (nb b o e hb)⟩
    have same : ∀ b o, sI.heap.get? b = some o → b ∉ frs X.stack → G.get? b = some o := fun b o e hb => gB b o (nb b o e hb)
    have nst : ∀ b o, X.s_0.heap.get? b = some o → b ∉ X.fs → b ∉ frs X.stack := fun b o e hb hm => by
      rcases List.mem_cons.mp (J.stkSub b hm) with z | z
      · have h1 := Heap.lt_size e
        have h2 := ok.above
        rw [z] at h1
        exact absurd (Nat.lt_of_lt_of_le h1 h2) (Nat.lt_irrefl _)
      · exact hb z
    have neL : ∀ b o, X.s_0.heap.get? b = some o → b ≠ X.env.locals := fun b o e => Nat.ne_of_lt (Nat.lt_of_lt_of_le (Heap.lt_size e) ok.above)
    have nsG : G.Ns X.env.locals (fun x => if x = n then v else m x) := by
      obtain ⟨o5, es5, ep5, a1, a2', a3⟩ := up5.ns hn4
      exact ⟨o5, es5, ep5, by rw [gF _ hL']; exact a1, a2', a3⟩
    refine ⟨a2, B, { s' with heap := G, toks := s'.toks + 1 }, pins, σ.set i none, H, cls, d, rfl, ?_, fun b o e hb => ?_, Heap.UpToSlots.of_keeps fun b o e => (og b o e).1, .inr (.inr (by rw [hs]; exact hh5)), na, rfl, ag, w⟩
    · refine ⟨ok, os.trans J.os, ag, ⟨fun b o e n hb hx => same b o (J.base.keep b o e n hb hx) (nst b o e hb), fun b o e n hb hx => ?_, J.base.free, fun b o e hx => ?_, J.base.tups, J.base.frzs, J.base.tbls⟩, ⟨_, nsG, fun j y v' e1 e2 e3 => ?_⟩, fun y c e => ?_, J.free, J.freeC, fun p hp => ?_, (J.inGround nb).kept gB, by simpa using J.len⟩
      · obtain ⟨sl, e1⟩ := J.base.slot b o e n hb hx
        exact anyG b { o with slots := sl } e1 (neL b o e)
      · obtain ⟨o', e1⟩ := J.base.there b o e hx
        obtain ⟨sl, e2⟩ := anyG b o' e1 (neL b o e)
        exact ⟨_, e2⟩
      · by_cases hj : j = i
        · subst hj
          by_cases hlt : j < σ.length
          · rw [List.getElem?_set_self hlt] at e2; cases e2
          · rw [List.getElem?_eq_none (by simpa using hlt)] at e2; cases e2
        · rw [List.getElem?_set_ne (Ne.symm hj)] at e2
          obtain ⟨u', r', q⟩ := hlk j y v' e1 e2 e3
          refine ⟨u', r', ?_⟩
          rcases q with ⟨k, e⟩ | ⟨k, c, e, o, ho, hdo⟩
          · have ny : y ≠ n := fun e => hj (nodup_ix hN e1 (e ▸ hi))
            exact .inl ⟨k, (if_neg ny).trans e⟩
          · obtain ⟨sl, e2⟩ := anyG c o ho (J.cne y c e)
            exact .inr ⟨k, c, e, _, e2, hdo⟩
      · obtain ⟨w', o, ho, hdo⟩ := J.cell y c e
        obtain ⟨sl, e2⟩ := anyG c o ho (J.cne y c e)
        exact ⟨w', _, e2, hdo⟩
      · obtain ⟨e, n, ne, nf, dd⟩ := J.pin p hp
        exact ⟨same p.1 p.2 e fun z => (List.mem_cons.mp (J.stkSub p.1 z)).elim ne nf, n, ne, nf, dd⟩
    · obtain ⟨e', h⟩ := og b o e
      rcases h with h | h
      · obtain ⟨o', q⟩ := Option.isSome_iff_exists.mp h
        have z := hh5.1 b o' q
        rw [e'] at z; cases z
        exact q
      · exact absurd h hb
  first
    | exact wpAny_bind (wpAny_pure (wpAny_bind fin))
    | exact wpAny_bind fin
/-! try: body, except x as n: a suite that may raise -/
section
variable {X : Cx} {x n : Str} {c : Value} {i : Nat} {body suite : List Stmt} {b₀ : Stmt} {np pos pos' : Pos} {tb : WX → TS} {ts : Addr → Value → Option Addr → TS} {Wout : WX}
theorem ps_try_asX (hs : X.stack = X.env :: X.outer) (hf : X.env.frame = some X.env.locals) (hN : X.N.Nodup) (hi : X.N[i]? = some n) (hln : X.env.kindOf n = some .local) (hc : Names X x c) (hpa : ∀ hd : Option Value, PassesOwnAt (model X.prog X.w) (X.A.mark hd) X.A X.env X.xe) (tk : L2.Takes X Wout)
    (hb : ∀ (W : WX) (pn : List (Addr × Obj)) (xe : Value → Shared → Prop), L2N.Takes (X.tr pn xe) W → PassesOwn (model X.prog X.w) X.A X.env xe → PSs (X.tr pn xe) body (tb W))
    (hsu : ∀ (a : Addr) (oe : Obj) (cls : Value) (d : Option Addr) (pn : List (Addr × Obj)) (xe : Value → Shared → Prop), L2N.Zn cls d oe → (∃ vs, oe.data = .fields vs) → L2.Takes (suiteY X a ((a, oe) :: pn) xe) (fun cls d σ H => Wout cls d (σ.set i none) H) → HotC (suiteY X a ((a, oe) :: pn) xe) →
      PSs (suiteY X a ((a, oe) :: pn) xe) (b₀ :: suite) (ts a cls d)) :
    PS X (.Try body [.ExceptHandler (some (.Name x np)) (some n) (b₀ :: suite) pos'] [] [] pos) (fun D σ H => tb (wAs X.K c i ts Wout D) D σ H) := by
  refine ⟨fun pins s σ H D I h => ?_⟩
  have ok := I.ok
  have hfr : X.A.frames = some (X.env :: X.outer) := by rw [ok.frames, hs]
  have hloc : Loc X.env.scope n := .inl hln
  refine wpAny_Try_except ?_
  refine wpAny_mono ((hb (wAs X.K c i ts Wout D) (X.pn ++ pins) (fun e s₁ => wpAny (model X.prog X.w) X.A (noteFrame e X.env) (fun _ s₂ => wpAny (model X.prog X.w) X.A (setFlight e none) (fun _ s₃ =>
    wpAny (model X.prog X.w) X.A (handleBy e X.env [.ExceptHandler (some (.Name x np)) (some n) (b₀ :: suite) pos']) (SP X pins D) X.xe s₃) X.xe s₂) X.xe s₁) (fun u s' xx => ?_) PassesOwn.looking).run [] s σ H D (I.toTry _) h) (fun f s1 hsp => ?_) (fun e s1 he => he)
  · obtain ⟨a, B, sI, pins', σ', H', cls, d, rfl, J', nb, up, sky, na, os, ag, b, hb1, hyes, hno⟩ := xx
    have J : Inv X pins σ' H' sI := J'.ofTry ok
    have sky' : Sky B (X.env :: X.outer) a (L2N.Zn cls d) X.env.locals s'.heap := by rw [← hs]; exact sky
    show wpAny (model X.prog X.w) X.A (noteFrame (.ref a) X.env) _ _ _
    refine L2N.Sky.land L2N.Zn.steady hfr hf sky' fun h3 fl3 up3 => ?_
    have J3 : Inv X pins σ' H' { s' with heap := h3 } := J.landed nb fl3.1 (up.trans up3) os ag
    obtain ⟨oe3, vs3, he3, hz3, hd3⟩ := fl3.there
    have notFr : ∀ {h : Heap} {o : Obj} {vs : Array Value}, h.FunFrames B (X.env :: X.outer) → h.get? a = some o → o.data = .fields vs → a ∉ frs (X.env :: X.outer) := fun {h o vs} ff e dd hm => by
      obtain ⟨_, o', e', hnf⟩ := ff.mem hm
      rw [e] at e'; cases e'
      exact hnf _ dd
    have nfr := notFr fl3.2.2.1 he3 hd3
    have nL : a ≠ X.env.locals := fun z => nfr (List.mem_filterMap.mpr ⟨X.env, List.mem_cons_self, by rw [hf, z]⟩)
    have nF : a ∉ X.fs := fun hm => by
      obtain ⟨e, he, q⟩ := List.mem_filterMap.mp hm
      exact nfr (List.mem_filterMap.mpr ⟨e, List.mem_cons_of_mem _ he, q⟩)
    have S3 := J3.suite he3 hd3 na nL nF
    refine wpAny_handleBy_cons (codeAny_handlers_test ?_) (by intro q; cases q)
    have LT : PySem.W.Looks (model X.prog X.w) h3 (typeOf (.ref a)) cls := fun A Q E s k q => wpAny_typeOf_ref (k _ _ he3) (by rw [hz3.1]; exact q)
    have LM := PySem.W.exm_one (M := model X.prog X.w) (J3.kIn) LT hb1
    have test : ∀ {Q : Value → Shared → Prop} {E : Value → Shared → Prop}, Q c { s' with heap := h3 } → wpAny (model X.prog X.w) (X.A.mark (some (.ref a))) (eval (.Name x np) X.env) Q E { s' with heap := h3 } := fun {Q E} q => by
      obtain ⟨hg, hdbg, hm | ⟨hm, hv, hnn⟩⟩ := hc
      · exact ld_glob (X := X.suite a ((a, oe3) :: (X.pn ++ pins))) S3 hg hm q hdbg
      · exact ld_blt (X := X.suite a ((a, oe3) :: (X.pn ++ pins))) S3 hg hm hv q hnn hdbg
    refine test (LM.here ?_)
    cases b with
    | true =>
      refine codeAny_handlers_suite_as ?_
      refine HandSPX.lands_againZ fl3 fun h4 fl4 up4 => ?_
      have J4 : Inv X pins σ' H' { s' with heap := h4 } := J.landed nb fl4.1 ((up.trans up3).trans up4) os ag
      obtain ⟨oe4, vs4, he4, hz4, hd4⟩ := fl4.there
      have S4 := J4.suite he4 hd4 na nL nF
      have tkS : L2.Takes (suiteY X a ((a, oe4) :: (X.pn ++ pins)) (AsSuiteRaised (model X.prog X.w) (X.A.mark (some (.ref a))) X.env n pos' (notedBy (model X.prog X.w) (X.A.mark (some (.ref a))) X.env (cameBackBy (model X.prog X.w) X.A X.env X.xe)))) (fun cls d σ H => Wout cls d (σ.set i none) H) :=
        fun u2 s2 x2 => as_raised (pins := pins) (q := (a, oe4)) hs hf hN hi hln tk hpa ok u2 s2 x2
      have hot : HotC (suiteY X a ((a, oe4) :: (X.pn ++ pins)) (AsSuiteRaised (model X.prog X.w) (X.A.mark (some (.ref a))) X.env n pos' (notedBy (model X.prog X.w) (X.A.mark (some (.ref a))) X.env (cameBackBy (model X.prog X.w) X.A X.env X.xe)))) := ⟨(a, oe4), ⟨rfl, vs4, hd4, hz4.2.2 vs4 hd4⟩, List.mem_cons_self⟩
      refine store_ok (X := X.suite a ((a, oe4) :: (X.pn ++ pins))) (v := .ref a) S4 hN hi hloc rfl (fun s5 S5 => ?_) (.inr hln)
      refine wpAny_mono ((hsu a oe4 cls d (X.pn ++ pins) _ hz4 ⟨_, hd4⟩ tkS hot).run [] s5 _ H' _ (suiteY_of S5) (hyes rfl a na)) (fun f s6 hsp => ?_) (fun e6 s6 z => z)
      have end_ : ∀ {σ6 : L2.St} {H6 : Hp} {xe : Value → Shared → Prop} {Q : Shared → Prop}, Inv (suiteY X a ((a, oe4) :: (X.pn ++ pins)) xe) [] σ6 H6 s6 → (∀ s7, Inv X pins (σ6.set i none) H6 s7 → Q s7) →
          wpAny (model X.prog X.w) X.A (do bindName X.env n .none; unbindBehindTheSuite X.env n pos') (fun _ s7 => Q s7) X.xe s6 := fun S6 hq => gone_ok (unsuiteY S6 ok) hN hi hln hq
      cases f with
      | next =>
        obtain ⟨σ6, H6, S6, q6⟩ := hsp
        exact end_ S6 fun s7 J7 => ⟨_, _, J7, q6⟩
      | brk =>
        obtain ⟨σ6, H6, S6, q6⟩ := hsp
        exact end_ S6 fun s7 J7 => ⟨_, _, J7, q6⟩
      | cont =>
        obtain ⟨σ6, H6, S6, q6⟩ := hsp
        exact end_ S6 fun s7 J7 => ⟨_, _, J7, q6⟩
      | ret u =>
        obtain ⟨v6, σ6, H6, S6, r6, q6⟩ := hsp
        exact end_ S6 fun s7 J7 => ⟨_, _, _, J7, r6, q6⟩
    | false =>
      show wpAny _ X.A (handleBy (.ref a) X.env []) _ _ _
      refine wpAny_handleBy_nil ?_
      obtain ⟨k1, k2, k3, oe, vs, T, oT, ts', he, hz, hd, h1, hr⟩ := id (flyingZ_imp (fun o z => z.zc) fl3)
      unfold PySem.passOn
      refine wpAny_bind (wpAny_field he hd h1 ?_)
      rw [if_neg (show ¬ ((Value.ref T == Value.none) = true) from by simp)]
      have fin : wpAny (model X.prog X.w) X.A (setFlight (.ref a) X.env.frame) (fun _ s4 => wpAny (model X.prog X.w) X.A (throw (.ref a) : Sem Flow) (SP X pins D) X.xe s4) X.xe { s' with heap := h3 } := by
        rw [hf]
        refine HandSPX.setFlight_upZ (flyingZ_imp (fun o z => z.zc) fl3) fun h4 hh4 up4 => wpAny_throw (tk _ _ ?_)
        exact ⟨a, B, sI, pins, σ', H', cls, d, rfl, J, nb, (up.trans up3).trans up4, .inr (.inr (by rw [hs]; exact hh4)), na, os, ag, hno rfl⟩
      first
        | exact wpAny_bind (wpAny_pure (wpAny_bind fin))
        | exact wpAny_bind fin
  · cases f with
    | next =>
      obtain ⟨σ', H', J', q⟩ := hsp
      exact wpAny_execs_nil ⟨σ', H', J'.ofTry ok, q⟩
    | brk =>
      obtain ⟨σ', H', J', q⟩ := hsp
      exact ⟨σ', H', J'.ofTry ok, q⟩
    | cont =>
      obtain ⟨σ', H', J', q⟩ := hsp
      exact ⟨σ', H', J'.ofTry ok, q⟩
    | ret u =>
      obtain ⟨v, σ', H', J', r, q⟩ := hsp
      exact ⟨v, σ', H', J'.ofTry ok, r, q⟩
end
end XR

set_option maxHeartbeats 4000000
/-! exceptions over data, made while one is handled -/
namespace XS
open PySem PySem.Spec PyProof.Rows L2 L2H HotX XE XA XB XC XR DL
structure MkrH (P : Program) (w : World) (K : PySem.W.Frag) (mg : Str → Option Value) (base : Heap) (k : Nat) (x : Str) (C : Addr) (n : Nat) (ns : List Str) (F : Bx → List D → (List D → Prop) → Prop) : Prop where
  ex : ∃ (fI : Addr) (fd : FuncData) (ps : List Str), XMk K C fI ∧ FnH P w K mg base CX0 k fI fd ps (SpX K n ns F) ∧ Binds K fd ps []
  mg : mg x = some (.ref C)
  st : ∀ f, f ∈ ns → XSt K C f
section
variable {X : Cx} {C fI : Addr} {fd : FuncData} {ps : List Str} {sp : Sp} {k : Nat}
theorem run_rxH {pins : List (Addr × Obj)} {σ : L2.St} {H1 : Hp} {s : Shared} {Q : XK} {us : List Value} {vs : List V} (T : XMk X.K C fI) (R : XRs X.K C) (F : FnH X.prog X.w X.K X.mg X.base CX0 k fI fd ps sp) (hr : RoomH (k + 1) X.A) (hc : HotC X) (hb : Binds X.K fd ps []) (I1 : Inv X pins σ H1 s) (r1 : Vals vs us) (hz : vs.length ≤ 1000)
    (h : ∀ a, H1 a = none → sp (.ref a :: vs) (upd H1 a (exo a C none)) (fun v H2 => v = .non ∧ ∃ (d : Addr) (fs : List (Str × V)), H2 a = some (exo a C (some d)) ∧ H2 d = some (exd d fs) ∧ H1 d = none ∧ Q (.ref C) (some d) (upd (del H2 a) d (.xd fs))) (fun _ _ _ => False)) :
    wpAny (model X.prog X.w) X.A (call (.ref C) us) (fun u s' => L2N.MkP X pins σ Q u s' ∧ Six u s') X.xe s := by
  obtain ⟨B, newId, initId, bmB, FB, ei⟩ := T.base
  obtain ⟨nm, N, qn, bs, bm, hdct, sn, sub, ab, col, dd, k0, k1, k2, k3, k5, hC, hT⟩ := PySem.W.excInit_of I1.kIn ei
  obtain ⟨pn, hot, hpn⟩ := hc
  obtain ⟨hp, g, dr, tk, os⟩ := s
  have big : hp.objs.size ≤ hp.objs.size + 1 := Nat.le_succ _
  have hq := h (hp.objs.size + 1) (I1.hok.fresh big)
  have get2 : ((hp.push (PySem.W.kdv_tup us)).push (PySem.HandSPX.excO C hp.objs.size)).get? (hp.objs.size + 1) = some (PySem.HandSPX.excO C hp.objs.size) := by heap_get
  have keep2 : ∀ b o, hp.get? b = some o → ((hp.push (PySem.W.kdv_tup us)).push (PySem.HandSPX.excO C hp.objs.size)).get? b = some o := fun b o q => Heap.get?_push_of_some _ (Heap.get?_push_of_some _ q)
  have I2 : Inv X pins σ (upd H1 (hp.objs.size + 1) (exo (hp.objs.size + 1) C none)) ⟨(hp.push (PySem.W.kdv_tup us)).push (PySem.HandSPX.excO C hp.objs.size), g, dr, tk, os⟩ := I1.laid (t' := tk) (a := hp.objs.size + 1) keep2 big (exo_ok get2)
  have r2 : Vals (V.ref (hp.objs.size + 1) :: vs) (Value.ref (hp.objs.size + 1) :: us) := .cons rfl r1
  have len2 : (Value.ref (hp.objs.size + 1) :: us ++ []).length = ps.length := by rw [List.append_nil, ← r2.length]; exact F.len _ _ _ _ hq
  have few : us.length ≤ sizeLine := by rw [← Paired.length r1, sizeLine_eq]; omega
  have bd := hb _ (Value.ref (hp.objs.size + 1) :: us) I2.kIn len2
  rw [List.append_nil] at bd
  have P1 := I2.pin pn (List.mem_append_left _ hpn)
  have hpin : PinOk X.stack (upd H1 (hp.objs.size + 1) (exo (hp.objs.size + 1) C none)) ⟨(hp.push (PySem.W.kdv_tup us)).push (PySem.HandSPX.excO C hp.objs.size), g, dr, tk, os⟩ pn :=
    ⟨P1.1, P1.2.1, fun hmm => (List.mem_cons.mp (I2.stkSub pn.1 hmm)).elim P1.2.2.1 P1.2.2.2.1, P1.2.2.2.2⟩
  refine wpAny_call (PySem.HandSPX.call_own FB hT hC (PySem.W.looks_findIn I1.kIn T.ini) (fun self => PySem.W.bind_fn I1.kIn self T.fn) few
    (codeAny_mono (F.run _ X.stack _ _ ⟨Value.ref (hp.objs.size + 1) :: us, []⟩ (Value.ref (hp.objs.size + 1) :: us) _ _ (fun _ _ _ => False) pn (hr.make C us []) ⟨hot.1, hot.2⟩ hpin (I2.env0.make C us []) bd r2 hq) fun rr s' z => ?_))
  cases rr with
  | error er => exact (show False from z).elim
  | ok fl =>
    cases fl with
    | next => exact False.elim z
    | brk => exact False.elim z
    | cont => exact False.elim z
    | ret u =>
      obtain ⟨v, H2, os2, bare2, un2, hok2, rv, ev, d, fs, ea, ed, hd1, q2⟩ := z
      subst ev
      obtain ⟨h2, g2, d2, t2, os'⟩ := s'
      obtain ⟨t0, G, J, kG, ge, hoe, na⟩ := mk_end0 (d2 := d2) (t2 := t2) I1 big keep2 un2 hok2 os2 bare2 ea ed hd1
      refine ⟨rv, ⟨_, _, _, ⟨G, g2, d2, t2, os'⟩, _, .ref C, some d, rfl, J, kG, ge, hoe, ⟨rfl, rfl, fun vs e => by cases e; rfl⟩, rfl, rfl, na, rfl, bare2, raises_own R.exC R.tyC, q2⟩, fun a oe vs ea2 hg2 hd2 => ?_⟩
      cases ea2
      have hg3 : h2.get? (hp.objs.size + 1) = some oe := hg2
      rw [hoe] at hg3
      cases hg3
      cases hd2
      show (4 : Nat) < 6
      decide
end
section
variable {X : Cx} {k n : Nat} {C : Addr} {ns : List Str} {F : Bx → List D → (List D → Prop) → Prop} {e : Expr} {es : List Expr} {ta : TA} {x : Str} {p pos : Pos}
/-- C(e, ..), to be raised in a suite -/
theorem pmk_CH (T : MkrH X.prog X.w X.K X.mg X.base k x C n ns F) (R : XRs X.K C) (hr : RoomH (k + 1) X.A) (hc : HotC X) (hg : Gl X x) (ha : PA X (e :: es) ta) (hdb : (x == ("__debug__" : Str)) = false := by decide)
    (he : starEach (e :: es) X.env = (false, eval e X.env) :: starEach es X.env := by rfl) (hpl : (backTo pos (starEach es X.env)).any (·.1) = false := by rfl) : PMk5 X (.Call (.Name x p) (e :: es) [] pos) (tRx C (SpXn X.K C n ns F) ta) := by
  obtain ⟨fI, fd, ps, Tm, FF, hb⟩ := T.ex
  exact fun pins s σ H Q I h => wpAny_Call_Name_kw (ld_glob I hg T.mg (PySem.W.callWith_K (h₀ := X.base) I.ok.mod.kin Tm.kp
    (thn (ha.run pos pins s σ H _ I h) fun us s1 ⟨vs, H1, I1, r, hz, q⟩ => ⟨I1.kIn, run_rxH Tm R FF hr hc hb I1 r hz fun a hna => spXn_to T.st (q a hna)⟩) he hpl) hdb)
end
/-- the same with K given -/
theorem pmk_CHK (K : PySem.W.Frag) {X : Cx} {k n : Nat} {C : Addr} {ns : List Str} {F : Bx → List D → (List D → Prop) → Prop} {e : Expr} {es : List Expr} {ta : TA} {x : Str} {p pos : Pos} (hK : X.K = K) (T : MkrH X.prog X.w K X.mg X.base k x C n ns F) (R : XRs K C) (hr : RoomH (k + 1) X.A) (hc : HotC X) (hg : Gl X x) (ha : PA X (e :: es) ta) (hdb : (x == ("__debug__" : Str)) = false := by decide)
    (he : starEach (e :: es) X.env = (false, eval e X.env) :: starEach es X.env := by rfl) (hpl : (backTo pos (starEach es X.env)).any (·.1) = false := by rfl) : PMk5 X (.Call (.Name x p) (e :: es) [] pos) (tRx C (SpXn K C n ns F) ta) := by
  subst hK
  exact pmk_CH T R hr hc hg ha hdb he hpl
theorem pe_xfHK (K : PySem.W.Frag) {X : Cx} {a : Addr} {oe : Obj} {cls : Value} {d : Option Addr} {e : Expr} {te : TE} {pos : Pos} {n : Str} (hK : X.K = K) (hp : (a, oe) ∈ X.pn) (hz : L2.Zc cls d oe) (hf : ∃ vs, oe.data = .fields vs) (he : PE X e te)
    (hb : attributeBase e n X.env (eval e X.env) = eval e X.env := by rfl) : PE X (.Attribute e n pos) (tXfA K a cls d n te) := by
  subst hK
  exact pe_xfH hp hz hf he hb
section
variable {X : Cx} {CX : CXT} {k : Nat} {C fI : Addr} {fd : FuncData} {ps : List Str} {sp : Sp} {E : XK} {o e : Expr} {es : List Expr} {to te : TE} {ta : TA} {f x : Str} {p p' p1 p2 pos : Pos}
/-- C.__init__(self, ..), in a suite -/
theorem pe_xinitH {pl : Sem Bool} (T : XCal X.K C fI) (F : FnH X.prog X.w X.K X.mg X.base CX k fI fd ps sp) (hr : RoomH k X.A) (hot : HotC X) (hk : PySem.W.keepIn X.K (.ref fI) = true) (hb : Binds X.K fd ps []) (hx : Passes CX X E) (hg : Gl X x) (hm : X.mg x = some (.ref C)) (ha : PA X (e :: es) ta)
    (hdb : (x == ("__debug__" : Str)) = false := by decide)
    (hc : eval (.Call (.Attribute (.Name x p1) "__init__" p2) (e :: es) [] pos) X.env = (do
      let ov ← eval (.Name x p1) X.env
      standAt p2.atName
      let (fv, first) ← holding [ov] (getMethod ov "__init__" pl)
      callWith pos fv first (backTo pos (starEach (e :: es) X.env)) (backToKw pos (keywordEach [] X.env))) := by rfl)
    (he : starEach (e :: es) X.env = (false, eval e X.env) :: starEach es X.env := by rfl) (hpl : (backTo pos (starEach es X.env)).any (·.1) = false := by rfl) :
    PE X (.Call (.Attribute (.Name x p1) "__init__" p2) (e :: es) [] pos) (tCall sp [] E ta) := by
  refine ⟨fun pins s σ H Q I h => ?_⟩
  refine PySem.W.methodCall_KW (ld_glob I hg hm ?_ hdb) hc
  refine PySem.W.method_cls I.kIn T.sp (PySem.W.cls_value I.kIn T.rd T.at_ rfl ?_)
  have I0 := I.tok (s.toks + 1)
  refine PySem.W.callWith_K (h₀ := X.base) I0.ok.mod.kin hk (thn (ha.run pos pins _ σ H _ I0 h) fun us s1 ⟨vs, H1, I1, r, q⟩ => ⟨I1.kIn, ?_⟩) he hpl
  have q : sp (vs ++ []) H1 Q E := q
  rw [List.append_nil] at q
  exact run_fnH (E := fun _ => E) F hr hot hb (fun pins H s e s' => hx pins _ H s e s') I1 r q
end
/-- a def that is called in a suite -/
theorem okHt {P : Program} {w : World} {K : PySem.W.Frag} {mg : Str → Option Value} {base : Heap} {x qual : Str} {st : Stmt} {f : Addr} {fd : FuncData} {N ps : List Str} {k : Nat} {sp : Sp} (F : Fun K x qual st f fd) (S : FnScope N ps (defScope st)) (len : ∀ vs H Q E, sp vs H Q E → vs.length = ps.length)
    (hbody : ∀ (cdv : Value) (A : Around) (outer : List Env) (s : Shared) (H : Hp) (vs : List V) (Q : VK) (E : XK) (p : Addr × Obj), Hot1 A p → RoomH k (A.deeper (envOfC qual (defScope st) s.heap.objs.size f cdv)) → sp vs H Q E →
      ∃ t, PSs (cxH CX0 P w K mg base N qual (defScope st) f cdv A outer s H E p) (defBody st) t ∧ t { nx := fun _ H' => Q .non H', rt := Q } (L2.start N vs) H) : FnH P w K mg base CX0 (k + 1) f fd ps sp := by
  obtain ⟨oc, od, kV, doc, pm, an, cdv, ct, osl, rfl, lk, hcd⟩ := F.ex
  exact fn_ofH lk hcd S len fun A outer s H vs Q E p hot hr hsp => hbody cdv A outer s H vs Q E p hot hr hsp
/-- that context is hot -/
theorem hot_cxH {CX : CXT} {P : Program} {w : World} {K : PySem.W.Frag} {mg : Str → Option Value} {base : Heap} {N : List Str} {qual : Str} {scope : Scope} {f : Addr} {cd : Value} {A : Around} {outer : List Env} {s : Shared} {H : Hp} {E : XK} {p : Addr × Obj} (h : Hot1 A p) : HotC (cxH CX P w K mg base N qual scope f cd A outer s H E p) :=
  ⟨p, ⟨h.1, h.2⟩, List.mem_cons_self⟩
end XS
namespace XS
open PySem PySem.Spec PyProof.Rows L2 L2H HotX XE XA XB XC XR DL
/-- C(.., k = v, ..), what is wished of what it raises may look at the slots -/
def tMakeKS (C : Addr) (n m : Nat) (sp : Sp) (gV : List V → List V → List V) (E : L2.St → XK) (t tk : TA) : TE := fun σ H Q => tMakeK C n m sp gV (E σ) t tk σ H Q
section
variable {X : Cx} {CX : CXT} {k n : Nat} {f C : Addr} {fd : FuncData} {ps ks : List Str} {sp : Sp} {x : Str} {p pos : Pos} {e : Expr} {es : List Expr} {kws : List Keyword} {t tk : TA} {g : List Value → List Value → List Value} {gV : List V → List V → List V}
theorem run_makeKS {E : XK} {pins : List (Addr × Obj)} {σ : L2.St} {H : Hp} {s : Shared} {Q : VK} {us ws : List Value} {vs zs : List V} (M : Mk X.K C f) (F : FnOk X.prog X.w X.K X.mg X.base CX k f fd ps sp) (hr : Room (k + 1) X.A) (hb : KBn X.K fd ps (n + 1) ks g gV) (hx : PassesAt CX X σ E)
    (I : Inv X pins σ H s) (r : Vals vs us) (rz : Vals zs ws) (l1 : vs.length = n) (l2 : zs.length = ks.length)
    (h : ∀ x dx, H x = none → H dx = none → dx ≠ x → sp (gV (.ref x :: vs) zs) (upd (upd H dx (.own x)) x (.ins C dx [])) (fun v H2 => v = .non ∧ Q (.ref x) H2) E) :
    wpAny (model X.prog X.w) X.A (call (.ref C) us (ks.zip ws)) (EP X pins σ Q) X.xe s := by
  have hq := h (s.heap.objs.size + 1) s.heap.objs.size (I.hok.fresh (Nat.le_succ _)) (I.hok.fresh (Nat.le_refl _)) (Nat.ne_of_lt (Nat.lt_succ_self _))
  have I2 := Inv.made (C := C) I
  have n1 : (Value.ref (s.heap.objs.size + 1) :: us).length = n + 1 := by rw [List.length_cons, ← r.length, l1]
  have r1 : Vals (V.ref (s.heap.objs.size + 1) :: vs) (Value.ref (s.heap.objs.size + 1) :: us) := .cons rfl r
  refine wpAny_call (make_map (f := f) I.kIn M.makes M.init (beq_iff_eq.mp M.fn) (codeAny_mono (F.run _ X.stack _ _ ⟨Value.ref (s.heap.objs.size + 1) :: us, ks.zip ws⟩ (g (Value.ref (s.heap.objs.size + 1) :: us) ws) _ _ E (hr.make C us (ks.zip ws))
    (I2.env0.make C us (ks.zip ws)) (hb.to _ (Value.ref (s.heap.objs.size + 1) :: us) ws I2.kIn n1 (rz.length.symm.trans l2)) (hb.rel r1 rz) hq) fun rr s' z => ?_))
  cases rr with
  | error er => exact hx pins _ _ er s' I2 z
  | ok fl =>
    cases fl with
    | next => exact False.elim z
    | brk => exact False.elim z
    | cont => exact False.elim z
    | ret u =>
      obtain ⟨v, H2, J, rv, ev, q⟩ := I2.after z
      subst ev
      exact ⟨rv, ⟨V.ref (s.heap.objs.size + 1), H2, J, rfl, q⟩⟩
theorem pe_makeKS {E : L2.St → XK} (M : Mk X.K C f) (F : FnOk X.prog X.w X.K X.mg X.base CX k f fd ps sp) (hr : Room (k + 1) X.A) (hg : Gl X x) (hm : X.mg x = some (.ref C)) (hb : KBn X.K fd ps (n + 1) ks g gV) (hx : ∀ σ, PassesAt CX X σ (E σ)) (ha : PA X (e :: es) t) (hkw : PK X kws tk)
    (hall : (backToKw pos (keywordEach kws X.env)).all (·.1.isSome) = true := by rfl) (hks : (backToKw pos (keywordEach kws X.env)).filterMap (·.1) = ks := by rfl) (hdb : (x == ("__debug__" : Str)) = false := by decide)
    (he : starEach (e :: es) X.env = (false, eval e X.env) :: starEach es X.env := by rfl) (hpl : ((backTo pos (starEach (e :: es) X.env)).any (·.1) || (backToKw pos (keywordEach kws X.env)).any (·.1.isNone)) = false := by rfl) :
    PE X (.Call (.Name x p) (e :: es) kws pos) (tMakeKS C n ks.length sp gV E t tk) := by
  refine ⟨fun pins s σ H Q I h => ?_⟩
  refine wpAny_Call_Name_kw (ld_glob I hg hm ?_ hdb)
  refine PySem.W.callWith_KW (h₀ := X.base) I.ok.mod.kin M.kp hall (thn (ha.run pos pins s σ H _ I h) fun us s1 ⟨vs, H1, I1, r, q⟩ => ?_) hpl he
  refine thn (hkw.run pos pins s1 σ H1 _ I1 q) fun ws s2 ⟨zs, H2, I2, rz, l1, l2, q2⟩ => ⟨I2.kIn, ?_⟩
  rw [hks]
  exact run_makeKS M F hr hb (hx σ) I2 r rz l1 l2 q2
end
end XS
namespace DL
open PySem PySem.Spec PyProof.Rows L2 RZ RD RE XE XA XB XC XD XK XR XS
section
variable {K : PySem.W.Frag} {B : Bx} {M : List Addr} {H H1 : Hp} {Γ : Gam} {te : TE} {tr : TA} {n : Nat} {P : D → Prop}
/-- C.m(..), m a static method that may raise -/
theorem ev_smethE {C : Addr} {E : XK} {F : Bx → List D → (D → Prop) → (Addr → List Str → List D → Prop) → Prop} (hE : E = B.E) (h : EvA K B tr Γ fun ds => ds.length = n ∧ F B ds P B.PX) : Ev K B (tSMeth C (SpE K n F) E (tC (.ref C)) tr) Γ P := fun M σ H Q g x q =>
  ⟨rfl, h M σ H _ g x fun vs H1 ds r1 ⟨hl, p⟩ h1 => by
    subst hE
    have g1 := g.r r1
    exact ⟨by rw [← h1.length]; exact hl, B, M, ds, P, B.PX, g1, h1, p, fun v H' d r2 p2 h2 => q v H' d (r1.trans r2) p2 h2, fun H' C dx ns us es r2 n0 e ln dn px => g1.raise r2 n0 e ln dn px⟩⟩
/-- try: return .., except C as n: a suite; PX': what the body may raise -/
theorem rn_tryRet {Pn : Pst} {c : Value} {i : Nat} {Wout : WX} {mk : (L2.St → XK) → TE} {m0 : XK → TE} {ts : Addr → Value → Option Addr → TS} {PX' : Addr → List Str → List D → Prop} (hm : ∀ (E : L2.St → XK) σ H Q, m0 (E σ) σ H Q → mk E σ H Q)
    (h : ∀ B' : Bx, Box' B B' → B'.PX = PX' → Ev K B' (m0 B'.E) Γ Pn.rt)
    (hx : ∀ C ns es, PX' C ns es → PySem.W.exmOne K (.ref C) c = some true)
    (hs : ∀ (M : List Addr) (σ : L2.St) (H : Hp) (a C dx : Addr) (ns : List Str) (us : List V) (es : List D) (D : Ends), Good K B M H → EnvOk K M H σ Γ → H a = none → H dx = some (.xd (ns.zip us)) → ns.length = us.length → DenAll K (hid M H) es us → PX' C ns es →
      ts a (.ref C) (some dx) D (σ.set i (some (.ref a))) H) :
    Rn K B (fun D σ H => tRet (mk (L2.WE (wAs K c i ts Wout D))) D σ H) Γ Pn := fun M σ H E g x k1 k2 k3 k4 => by
  have back : ∀ {H' : Hp}, BoxOk K B H' → TbOk B H' → (∀ a o, H a = some o → B.No a → H' a = some o) → R K B H H' := fun b t f => ⟨b, f, fun _ => t⟩
  have g' : Good K { B with H0 := H, M0 := M, E := L2.WE (wAs K c i ts Wout E) σ, PX := PX' } M H := ⟨g.mem, g.meml, g.memt, g.box, g.tb, g.there, fun _ _ e _ => e, fun _ m => m, fun H' C dx ns us es bx tb fr n0 e ln dn px => by
    have r : R K B H H' := back bx tb fun a o h na => fr a o h ⟨na.b, na.t⟩
    exact ⟨true, hx C ns es px, fun _ a na => hs M σ H' a C dx ns us es _ (g.r r) (x.r g r) na e ln dn px, fun z => by cases z⟩⟩
  have rr : ∀ {H'}, R K { B with H0 := H, M0 := M, E := L2.WE (wAs K c i ts Wout E) σ, PX := PX' } H H' → R K B H H' := fun r => ⟨r.box, fun a o h na => r.two a o h ⟨na.b, na.t⟩, r.tb⟩
  refine hm _ σ H _ (h { B with H0 := H, M0 := M, E := L2.WE (wAs K c i ts Wout E) σ, PX := PX' } ⟨rfl, rfl, rfl, rfl⟩ rfl M σ H _ g' x fun v H' d r p dn => k2 v H' d (rr r) p dn)
end
end DL
namespace XL
open PySem PySem.Spec PyProof.Rows L2
theorem sl_listK {X : Cx} (K : PySem.W.Frag) (hK : X.K = K := by rfl) : SlR X (rSlL K) := by
  subst hK; exact sl_list
theorem sl_tupK {X : Cx} (K : PySem.W.Frag) (hK : X.K = K := by rfl) : SlR X (rSlT K) := by
  subst hK; exact sl_tup
end XL

set_option maxHeartbeats 4000000
/-! len(set(texts)), of any list or tuple of texts -/
namespace XT
open PySem PySem.Spec PyProof.Rows
/-- each text once -/
def once (xs : List Str) : List Str := xs.foldl (fun acc z => if acc.any (· == z) then acc else acc ++ [z]) []
theorem once_snoc (xs : List Str) (z : Str) : once (xs ++ [z]) = if (once xs).any (· == z) then once xs else once xs ++ [z] := by
  unfold once
  rw [List.foldl_append]; rfl
theorem once_le (xs : List Str) : ∀ i : Nat, i ≤ xs.length → (once (xs.take i)).length ≤ i
  | 0, _ => by rw [List.take_zero]; exact Nat.le_refl _
  | i + 1, hi => by
    have ih := once_le xs i (by omega)
    rw [List.take_add_one, List.getElem?_eq_getElem (by omega), Option.toList_some, once_snoc]
    split
    · omega
    · rw [List.length_append, List.length_singleton]; omega
theorem once_any (acc : List Str) (z k : Str) : (if acc.any (· == z) then acc else acc ++ [z]).any (· == k) = (acc.any (· == k) || decide (k = z)) := by
  by_cases hz : acc.any (· == z) = true
  · rw [if_pos hz]
    by_cases e : k = z
    · rw [e, hz]; rfl
    · rw [decide_eq_false e, Bool.or_false]
  · rw [if_neg hz, List.any_append, List.any_cons, List.any_nil, Bool.or_false]
    congr 1
    by_cases e : k = z
    · rw [e, beq_self_eq_true, decide_eq_true rfl]
    · rw [decide_eq_false e]
      exact beq_eq_false_iff_ne.mpr (Ne.symm e)
theorem once_size (acc : List Str) (z : Str) : (if acc.any (· == z) then acc else acc ++ [z]).length = if acc.any (· == z) then acc.length else acc.length + 1 := by
  split
  · rfl
  · rw [List.length_append, List.length_singleton]
section
variable {prog : Program} {w : World} {A : Around} {R : Result → Shared → Prop} {I : Addr} {fp wr : List Addr} {G : Array GenState → Array GenState → Prop} {n : Nat} {P : Nat → Value → Prop} {St : Nat → Shared → Prop}
/-- the texts are put in, one by one -/
theorem loopT (W : WalksS prog w A.in1 I fp wr G n P St) (Z : Addr) (nf : Z ∉ fp) (xs : List Str) (ln : xs.length = n) (room : n + 1 < scanBound) (at_ : ∀ i v, P i v → ∃ t, v = .str (xs.getD i Str.empty) t) :
    ∀ (left i : Nat) (s : Shared), n - i = left → i ≤ n → St i s → s.heap.SetOf (PySem.strKind prog w) Z (fun k => (once (xs.take i)).any (· == k)) (once (xs.take i)).length →
      (∀ s2, Moved (Z :: wr) G s s2 → s2.heap.SetOf (PySem.strKind prog w) Z (fun k => (once xs).any (· == k)) (once xs).length → R (.ok (.ret .none)) s2) →
      codeAny (model prog w) A (.builtin "set.update.loop" ⟨[.ref Z, .ref I], []⟩) R s := by
  have nw : Z ∉ wr := fun m => nf (W.sub _ m)
  have sub2 : ∀ b ∈ wr, b ∈ Z :: wr := fun b m => List.mem_cons_of_mem _ m
  intro left
  induction left with
  | zero =>
    intro i s e0 hi st0 z0 fin
    obtain rfl : i = n := by omega
    rw [← ln, List.take_length] at z0
    refine codeAny_builtin PyProof.Rows.F.entry_set_update_loop (by
      rw [Around.under_plainId PyProof.Rows.F.plain_set_update_loop _]
      show wpAny _ A.in1 (pyNext (.ref I) >>= _) _ _ s
      refine wpAny_bind (W.done s _ _ st0 fun s2 mv => ?_)
      obtain ⟨oz, es, ep, tb, hz, rest⟩ := z0
      show wpAny _ A.in1 (ret Value.none) _ _ s2
      exact wpAny_pure (fin s2 (mv.mono sub2) ⟨oz, es, ep, tb, mv.heap Z _ nw hz, rest⟩))
  | succ left ih =>
    intro i s e0 hi st0 z0 fin
    have lt : i < n := by omega
    have small := once_le xs i (by omega)
    have nx : xs.take (i + 1) = xs.take i ++ [xs.getD i Str.empty] := by
      rw [List.take_add_one, List.getD_eq_getElem?_getD, List.getElem?_eq_getElem (show i < xs.length by omega)]; rfl
    refine codeAny_builtin PyProof.Rows.F.entry_set_update_loop (by
      rw [Around.under_plainId PyProof.Rows.F.plain_set_update_loop _]
      show wpAny _ A.in1 (pyNext (.ref I) >>= _) _ _ s
      refine wpAny_bind (W.item i s _ _ lt st0 fun v s2 pv st2 mv => ?_)
      obtain ⟨t, rfl⟩ := at_ i v pv
      have z2 : s2.heap.SetOf (PySem.strKind prog w) Z (fun k => (once (xs.take i)).any (· == k)) (once (xs.take i)).length := by
        obtain ⟨oz, es, ep, tb, hz, rest⟩ := z0
        exact ⟨oz, es, ep, tb, mv.heap Z _ nw hz, rest⟩
      show wpAny _ A.in1 (holding [Value.str (xs.getD i Str.empty) t] (setAdd Z (.str (xs.getD i Str.empty) t)) >>= _) _ _ s2
      refine wpAny_bind (wpAny_holding (by
        unfold setAdd
        refine wpAny_holding (wpAny_bind ((PySem.strKind prog w).pyHash (k := xs.getD i Str.empty) (strKind_is _ _ _ _) ?_))
        refine wpAny_setAddHashed_of (knd := PySem.strKind prog w) (s := { s2 with toks := s2.toks + 1 }) (strKind_is _ _ _ _) rfl z2 (by omega) fun h3 same z3 => ?_
        have z4 : h3.SetOf (PySem.strKind prog w) Z (fun k => (once (xs.take (i + 1))).any (· == k)) (once (xs.take (i + 1))).length :=
          SetOf_congr z3 (fun k => by rw [nx, once_snoc, once_any]) (by rw [nx, once_snoc, once_size])
        refine wpAny_pure ⟨plainId_quiet PyProof.Rows.F.plain_set_update_loop _, ih (i + 1) _ (by omega) lt (W.frame _ s2 _ _ st2 (Nat.le_succ _) fun b m o e => (by
          rw [same.2 b fun z => nf (by rw [← z]; exact m)]; exact e)) z4 fun s3 mv3 z5 => fin s3 (Moved.trans W.gtrans ((mv.mono sub2).then_heap (Nat.le_succ _) fun b o m e => (by
          rw [same.2 b fun z => m (by rw [z]; exact List.mem_cons_self)]; exact e)) mv3) z5⟩))
      )
end
section
variable {prog : Program} {w : World} {A : Around} {E : Value → Shared → Prop} {s : Shared}
abbrev newSet (led : Bool) : Obj := { cls := .type "set", dict := none, data := .set #[] 0 (.fresh 0 0 led) }
set_option maxHeartbeats 3200000 in
theorem set_list {u : Addr} {its : Array Value} {xs : List Str} {Q : Value → Shared → Prop} (calm : A.handled = none) (lu : s.heap.IsList u its) (si : PyProof.Rows.StrsAre its.toList xs) (few : its.size + 1 < scanBound)
    (fin : ∀ (h2 : Heap) (tk : Nat), h2.SetOf (PySem.strKind prog w) s.heap.objs.size (fun k => (once xs).any (· == k)) (once xs).length → (∀ b o, b < s.heap.objs.size → s.heap.get? b = some o → h2.get? b = some o) → Q (.ref s.heap.objs.size) { s with heap := h2, toks := tk }) :
    wpAny (model prog w) A (call (.type "set") [.ref u]) Q E s := by
  obtain ⟨cs, tls, mros⟩ := PySem.F.called_set.mro
  have fm := PySem.F.called_set.made
  have fs := PySem.F.called_set.sub
  refine wpAny_call (codeAny_of_tree (by
    show wpAny _ _ (callAny (.type "set") _) _ _ _
    refine wpAny_pure ⟨Code.quiet_builtin _ (by decide +kernel), codeAny_builtin PySem.F.entry_type_call (by
      rw [Around.under_plain (weight_type_call_type "set" [.ref u] []) rfl]
      have ft := PySem.F.called_set.notType
      have fc := PySem.F.called_set.canCreate
      have fk := PySem.F.typeCall_set_1 (.ref u)
      repeat (any_goals (first | assumption | wp_step))
      refine codeAny_mono (code_set_new_1 (.ref u) (E := E) (Q₁ := fun ob sN => ∃ led : Bool, ob = .ref s.heap.objs.size ∧ sN = { s with heap := s.heap.push (newSet led) }) fun led => ⟨led, rfl, rfl⟩) fun rN sN gN => ?_
      rcases rN with er | (_ | _ | _ | ob) <;> first | exact gN | exact gN.elim | skip
      obtain ⟨led, rfl, rfl⟩ := gN
      have at0 : (s.heap.push (newSet led)).get? s.heap.objs.size = some (newSet led) := Heap.get?_push_size _ rfl
      have ty0 : Shared.TypeIs { s with heap := s.heap.push (newSet led) } (.ref s.heap.objs.size) "set" := ⟨_, at0, rfl⟩
      have fl := PySem.F.called_set.init.lookup
      have fb := PySem.F.called_set.init.bind (.ref s.heap.objs.size)
      repeat (any_goals (first | assumption | wp_step))
      refine codeAny_mono (codeAny_call_builtin (R := wants (fun r s2 => r = .none ∧ ∃ h2 tk, s2 = { s with heap := h2, toks := tk } ∧ h2.SetOf (PySem.strKind prog w) s.heap.objs.size (fun k => (once xs).any (· == k)) (once xs).length ∧
        (∀ b o, b < s.heap.objs.size → s.heap.get? b = some o → h2.get? b = some o)) E) PySem.F.called_set.init.plain PySem.F.entry_set_init (check_set_init_1 ty0 ?_)) fun r2 s2 g2 => ?_
      · obtain ⟨⟨c1, d1, t1, l1⟩, au, ec, nu, ed⟩ := lu
        simp only at ec ed
        subst ec ed
        have au2 : (s.heap.push (newSet led)).get? u = some { cls := .type "list", dict := d1, data := .seq its nu, slots := l1 } := Heap.get?_push_of_some _ au
        have f1 := PySem.F.sub_list_set
        have f2 := PySem.F.sub_list_frozenset
        have f3 : (Value.type "list" == Value.type "dict") = false := by decide
        have lu2 : (s.heap.push (newSet led)).IsList u its := ⟨_, au2, rfl, nu, rfl⟩
        unfold Builtin.«set.__init__» noKeywords Builtin.Frozenset.updateFrom
        generalize ePI : pyIter = PI
        wp_walk
        subst ePI
        refine wpAny_pyIter_list lu2 (wpAny_bind (wpAny_runValue ?_))
        have ult : u < s.heap.objs.size := Heap.lt_size au
        have nI : u ≠ (s.heap.push (newSet led)).objs.size := by rw [Heap.size_push]; exact Nat.ne_of_lt (Nat.lt_succ_of_lt ult)
        have nS : s.heap.objs.size ∉ [(s.heap.push (newSet led)).objs.size, u] := fun m => by
          rw [Heap.size_push] at m
          simp only [List.mem_cons, List.not_mem_nil, or_false] at m
          exact m.elim (Nat.ne_of_lt (Nat.lt_succ_self _)) (Nat.ne_of_gt ult)
        have el : xs.length = its.size := by rw [← StrsAre.len_eq si, Array.length_toList]
        refine loopT ((Walks.list (show A.in1.in1.in1.handled = none by simp [calm]) _ u nI its).toS) s.heap.objs.size nS xs el few (fun i v hv => SS.strs_at si i v (by rw [Array.getElem?_toList]; exact hv)) (its.size - 0) 0 _ (by omega) (Nat.zero_le _) ⟨⟨_, Heap.get?_push_size _ rfl, rfl, rfl⟩, (lu2.push _)⟩ ?z0 ?zR
        case z0 =>
          have a0 : ((s.heap.push (newSet led)).push { cls := .type "list_iterator", data := .fields #[.ref u, .int 0 0] }).get? s.heap.objs.size = some (newSet led) := Heap.get?_push_of_some _ at0
          exact SetOf_congr ((setObjOf_fresh (knd := PySem.strKind prog w) led).setOf a0 (by unfold scanBound; omega)) (fun _ => rfl) rfl
        case zR =>
          intro s3 mv z3
          obtain ⟨h3, g3, d3, t3, o3⟩ := s3
          obtain rfl : g3 = s.gens := mv.gens
          obtain rfl : d3 = s.drawn := mv.drawn
          obtain rfl : o3 = s.os := mv.os
          show wpAny _ _ _ _ _ _
          refine wpAny_pure (by
            show wpAny _ _ (ret Value.none) _ _ _
            refine wpAny_pure ⟨rfl, h3, t3, rfl, z3, fun b o lt e => mv.heap b o (fun m => ?_) (Heap.get?_push_of_some _ (Heap.get?_push_of_some _ e))⟩
            rw [Heap.size_push] at m
            simp only [List.mem_cons, List.mem_singleton, List.not_mem_nil, or_false] at m
            exact m.elim (Nat.ne_of_lt lt) (Nat.ne_of_lt (Nat.lt_succ_of_lt lt)))
      · rcases r2 with er | (_ | _ | _ | v2) <;> first | exact g2 | exact g2.elim | skip
        obtain ⟨rfl, h2, tk, rfl, z2, kp⟩ := g2
        repeat (any_goals (first | assumption | wp_step))
        exact fin _ _ z2 kp)⟩))
set_option maxHeartbeats 3200000 in
theorem set_tuple {u : Addr} {its : Array Value} {xs : List Str} {Q : Value → Shared → Prop} (calm : A.handled = none) (lu : s.heap.IsTuple u its) (si : PyProof.Rows.StrsAre its.toList xs) (few : its.size + 1 < scanBound)
    (fin : ∀ (h2 : Heap) (tk : Nat), h2.SetOf (PySem.strKind prog w) s.heap.objs.size (fun k => (once xs).any (· == k)) (once xs).length → (∀ b o, b < s.heap.objs.size → s.heap.get? b = some o → h2.get? b = some o) → Q (.ref s.heap.objs.size) { s with heap := h2, toks := tk }) :
    wpAny (model prog w) A (call (.type "set") [.ref u]) Q E s := by
  obtain ⟨cs, tls, mros⟩ := PySem.F.called_set.mro
  have fm := PySem.F.called_set.made
  have fs := PySem.F.called_set.sub
  refine wpAny_call (codeAny_of_tree (by
    show wpAny _ _ (callAny (.type "set") _) _ _ _
    refine wpAny_pure ⟨Code.quiet_builtin _ (by decide +kernel), codeAny_builtin PySem.F.entry_type_call (by
      rw [Around.under_plain (weight_type_call_type "set" [.ref u] []) rfl]
      have ft := PySem.F.called_set.notType
      have fc := PySem.F.called_set.canCreate
      have fk := PySem.F.typeCall_set_1 (.ref u)
      repeat (any_goals (first | assumption | wp_step))
      refine codeAny_mono (code_set_new_1 (.ref u) (E := E) (Q₁ := fun ob sN => ∃ led : Bool, ob = .ref s.heap.objs.size ∧ sN = { s with heap := s.heap.push (newSet led) }) fun led => ⟨led, rfl, rfl⟩) fun rN sN gN => ?_
      rcases rN with er | (_ | _ | _ | ob) <;> first | exact gN | exact gN.elim | skip
      obtain ⟨led, rfl, rfl⟩ := gN
      have at0 : (s.heap.push (newSet led)).get? s.heap.objs.size = some (newSet led) := Heap.get?_push_size _ rfl
      have ty0 : Shared.TypeIs { s with heap := s.heap.push (newSet led) } (.ref s.heap.objs.size) "set" := ⟨_, at0, rfl⟩
      have fl := PySem.F.called_set.init.lookup
      have fb := PySem.F.called_set.init.bind (.ref s.heap.objs.size)
      repeat (any_goals (first | assumption | wp_step))
      refine codeAny_mono (codeAny_call_builtin (R := wants (fun r s2 => r = .none ∧ ∃ h2 tk, s2 = { s with heap := h2, toks := tk } ∧ h2.SetOf (PySem.strKind prog w) s.heap.objs.size (fun k => (once xs).any (· == k)) (once xs).length ∧
        (∀ b o, b < s.heap.objs.size → s.heap.get? b = some o → h2.get? b = some o)) E) PySem.F.called_set.init.plain PySem.F.entry_set_init (check_set_init_1 ty0 ?_)) fun r2 s2 g2 => ?_
      · obtain ⟨⟨c1, d1, t1, l1⟩, au, ec, nu, ed⟩ := lu
        simp only at ec ed
        subst ec ed
        have au2 : (s.heap.push (newSet led)).get? u = some { cls := .type "tuple", dict := d1, data := .seq its nu, slots := l1 } := Heap.get?_push_of_some _ au
        have f1 := PySem.F.sub_tuple_set
        have f2 := PySem.F.sub_tuple_frozenset
        have f3 : (Value.type "tuple" == Value.type "dict") = false := by decide
        have lu2 : (s.heap.push (newSet led)).IsTuple u its := ⟨_, au2, rfl, nu, rfl⟩
        unfold Builtin.«set.__init__» noKeywords Builtin.Frozenset.updateFrom
        generalize ePI : pyIter = PI
        wp_walk
        subst ePI
        refine wpAny_pyIter_tuple lu2 (wpAny_bind (wpAny_runValue ?_))
        have ult : u < s.heap.objs.size := Heap.lt_size au
        have nI : u ≠ (s.heap.push (newSet led)).objs.size := by rw [Heap.size_push]; exact Nat.ne_of_lt (Nat.lt_succ_of_lt ult)
        have nS : s.heap.objs.size ∉ [(s.heap.push (newSet led)).objs.size, u] := fun m => by
          rw [Heap.size_push] at m
          simp only [List.mem_cons, List.not_mem_nil, or_false] at m
          exact m.elim (Nat.ne_of_lt (Nat.lt_succ_self _)) (Nat.ne_of_gt ult)
        have el : xs.length = its.size := by rw [← StrsAre.len_eq si, Array.length_toList]
        refine loopT ((Walks.tuple (show A.in1.in1.in1.handled = none by simp [calm]) _ u nI its).toS) s.heap.objs.size nS xs el few (fun i v hv => SS.strs_at si i v (by rw [Array.getElem?_toList]; exact hv)) (its.size - 0) 0 _ (by omega) (Nat.zero_le _) ⟨⟨_, Heap.get?_push_size _ rfl, rfl, rfl⟩, (lu2.push _)⟩ ?z0 ?zR
        case z0 =>
          have a0 : ((s.heap.push (newSet led)).push { cls := .type "tuple_iterator", data := .fields #[.ref u, .int 0 0] }).get? s.heap.objs.size = some (newSet led) := Heap.get?_push_of_some _ at0
          exact SetOf_congr ((setObjOf_fresh (knd := PySem.strKind prog w) led).setOf a0 (by unfold scanBound; omega)) (fun _ => rfl) rfl
        case zR =>
          intro s3 mv z3
          obtain ⟨h3, g3, d3, t3, o3⟩ := s3
          obtain rfl : g3 = s.gens := mv.gens
          obtain rfl : d3 = s.drawn := mv.drawn
          obtain rfl : o3 = s.os := mv.os
          show wpAny _ _ _ _ _ _
          refine wpAny_pure (by
            show wpAny _ _ (ret Value.none) _ _ _
            refine wpAny_pure ⟨rfl, h3, t3, rfl, z3, fun b o lt e => mv.heap b o (fun m => ?_) (Heap.get?_push_of_some _ (Heap.get?_push_of_some _ e))⟩
            rw [Heap.size_push] at m
            simp only [List.mem_cons, List.mem_singleton, List.not_mem_nil, or_false] at m
            exact m.elim (Nat.ne_of_lt lt) (Nat.ne_of_lt (Nat.lt_succ_of_lt lt)))
      · rcases r2 with er | (_ | _ | _ | v2) <;> first | exact g2 | exact g2.elim | skip
        obtain ⟨rfl, h2, tk, rfl, z2, kp⟩ := g2
        repeat (any_goals (first | assumption | wp_step))
        exact fin _ _ z2 kp)⟩))
end
end XT
namespace XT
open PySem PySem.Spec PyProof.Rows L2
/-- len(set(e)), e a list or a tuple of texts -/
def tLenSetT (K : PySem.W.Frag) (ta : TE) : TE := fun σ H Q => ta σ H fun x H1 => ∃ l, ∃ xs : List Str, x = .ref l ∧ (SqL K H1 l (xs.map V.str) ∨ SqT K H1 l (xs.map V.str)) ∧ xs.length ≤ 1000 ∧ Q (.int ((once xs).length : Nat)) H1
theorem pe_lenSetT {X : Cx} {a : Expr} {ta : TE} {p p2 q pos : Pos} (hc : X.calm = true) (hg : Gl X "len") (hm : X.mg "len" = none) (hg2 : Gl X "set") (hm2 : X.mg "set" = none) (ha : PE X a ta)
    (na : starEach [a] X.env = (false, eval a X.env) :: starEach [] X.env := by rfl) : PE X (.Call (.Name "len" p) [.Call (.Name "set" p2) [a] [] q] [] pos) (tLenSetT X.K ta) := by
  refine ⟨fun pins s σ H Q I h => Call_ (ld_blt I hg hm boot_len (PyProof.Rows.callWith_builtin1 (PyProof.Rows.args_cons (Call_ (ld_blt I hg2 hm2 boot_set (PyProof.Rows.callWith_type1 (PyProof.Rows.args_cons
    (thn (ha.run pins s σ H _ I h) fun v s1 ⟨x, H1, I1, r1, l, xs, ex, hq, hz, q1⟩ => PyProof.Rows.args_nil ?_) na) na rfl))) rfl) rfl rfl))⟩
  subst ex
  obtain rfl : v = Value.ref l := r1
  have small : (once xs).length ≤ xs.length := by
    have := once_le xs xs.length (Nat.le_refl _)
    rwa [List.take_length] at this
  have done : ∀ (h2 : Heap) (tk : Nat), h2.SetOf (PySem.strKind X.prog X.w) s1.heap.objs.size (fun k => (once xs).any (· == k)) (once xs).length → (∀ b o, b < s1.heap.objs.size → s1.heap.get? b = some o → h2.get? b = some o) →
      wpAny (model X.prog X.w) X.A (spliced (backTo pos (starEach [] X.env))) (fun vs s2 => wpAny (model X.prog X.w) X.A (call (.builtin "len") (Value.ref s1.heap.objs.size :: vs)) (EP X pins σ Q) X.xe s2) X.xe { s1 with heap := h2, toks := tk } := fun h2 tk z kp => by
    obtain ⟨oz, es, ep, tb, hz1, hex, hd, _, _, _, hf, hn⟩ := z
    have I2 : Inv X pins σ H1 { s1 with heap := h2, toks := tk } := I1.kept fun b o e => kp b o (Heap.lt_size e) e
    exact PyProof.Rows.args_nil (call_len_set hz1 hex hd hf (by rw [hn] <;> omega) ⟨.int (once xs).length, H1, I2.tok _, ⟨_, by rw [hn]⟩, q1⟩)
  rcases hq with hq | hq
  · obtain ⟨its, r, pl, _⟩ := I1.list hq
    have sz : its.toArray.size = xs.length := by rw [List.size_toArray, ← r.length, List.length_map]
    exact set_list (I1.ok.hd hc) pl.isList (by simpa using strsAre_of r) (by rw [sz]; unfold scanBound; omega) done
  · obtain ⟨its, r, pl, _⟩ := I1.tuple hq
    have sz : its.toArray.size = xs.length := by rw [List.size_toArray, ← r.length, List.length_map]
    exact set_tuple (I1.ok.hd hc) pl (by simpa using strsAre_of r) (by rw [sz]; unfold scanBound; omega) done
end XT

set_option maxHeartbeats 4000000
/-! sets of nothing; counts in tuples of texts; len(set(..)) over data -/
namespace XU
open PySem PySem.Spec PyProof.Rows L2
/-- len of a set object -/
def rLenB (w : World) : List V → Hp → VK → Prop := fun xs H Q => ∃ a S n, xs = [.ref a] ∧ H a = some (PpSet.SetBO w a S n) ∧ n ≤ 2 ∧ Q (.int (n : Nat)) H
theorem call_lenB {X : Cx} {w : World} (hw : X.w = w := by rfl) : CallR X (.builtin "len") (rLenB w) := by
  subst hw
  intro pins s σ H xs us Q I r h
  obtain ⟨a, S, n, rfl, e, hn, q⟩ := h
  obtain ⟨u, rfl, rx⟩ := vals1 r
  cases rx
  obtain ⟨o, es, ep, tb, hz1, hex, hd, _, _, _, hf, hn2⟩ := (PpSet.setBO_get I e).setOf (P := X.prog)
  exact call_len_set hz1 hex hd hf (by rw [hn2] <;> omega) ⟨.int n, H, I.tok _, ⟨_, by rw [hn2]⟩, q⟩
/-- a tuple display: what is made has no dict of its own -/
def tTupZ (t : TA) : TE := fun σ H Q => t σ H fun xs H1 => xs.length ≤ sizeLine ∧ ∀ p o, H1 p = none → o.cls = .type "tuple" ∧ o.dict = none → Q (.ref p) (upd H1 p (.frz o (.tup xs)))
theorem pe_tupZ {X : Cx} {es : List Expr} {x1 : Nat} {pos : Pos} {t : TA} (h : PA X es t) : PE X (.Tuple es x1 pos) (tTupZ t) := by
  refine ⟨fun pins s σ H Q I hq => ?_⟩
  refine wpAny_Tuple_spliced (thn (h.run pos pins s σ H _ I hq) fun us s1 ⟨xs, H1, I1, r, z, q⟩ => ⟨by rw [← r.length]; exact z, ?_⟩)
  have hf : H1 s1.heap.objs.size = none := I1.hok.fresh (Nat.le_refl _)
  exact ⟨.ref s1.heap.objs.size, upd H1 s1.heap.objs.size (.frz _ (.tup xs)), I1.laid (t' := s1.toks) (fun b u e => Heap.get?_push_of_some _ e) (Nat.le_refl _) ⟨Heap.get?_push_size _ rfl, z, us, r, ⟨_, Heap.get?_push_size _ rfl, rfl, _, rfl⟩⟩, rfl, q _ _ hf ⟨rfl, rfl⟩⟩
/-- o.count(e), o such a tuple -/
def tCntZ (K : PySem.W.Frag) (to : TE) (t : TA) : TE := fun σ H Q => to σ H fun x H1 => (∃ p o xs, x = .ref p ∧ H1 p = some (.frz o (.tup xs)) ∧ o.cls = .type "tuple" ∧ o.dict = none) ∧ t σ H1 fun vs H2 => RD.rCntT K x vs H2 Q
open DL RD in
theorem pe_tcountZ {X : Cx} {o e : Expr} {es : List Expr} {to : TE} {t : TA} {apos cpos : Pos} (ho : PE X o to) (ha : PA X (e :: es) t)
    (hbase : attributeBase o "count" X.env (eval o X.env) = eval o X.env := by rfl)
    (hfew : ((backTo cpos (starEach (e :: es) X.env)).all (fun x => !x.1) && (backToKw cpos (keywordEach [] X.env)).all (fun x => x.1.isSome)
      && decide ((e :: es).length + ([] : List Keyword).length + (if ([] : List Keyword).isEmpty then 0 else 1) < 30)) = true := by rfl)
    (hline : (apos.endLine == cpos.line) = true := by rfl) (hs : starEach (e :: es) X.env = (false, eval e X.env) :: starEach es X.env := by rfl) (hplain : (backTo cpos (starEach es X.env)).any (·.1) = false := by rfl) :
    PE X (.Call (.Attribute o "count" apos) (e :: es) [] cpos) (tCntZ X.K to t) := by
  refine ⟨fun pins s σ H Q I h => ?_⟩
  refine wpAny_Call_method_late hbase hfew hline rfl (thn (ho.run pins s σ H _ I h) fun v s1 ⟨x, H1, I1, r1, ⟨p, ob, ys, ex, hp, hc, hd⟩, q1⟩ => ?_)
  subst ex
  cases r1
  have hg := (I1.hok p _ hp).1
  refine ⟨"tuple", "tuple.count", PySem.F.plainAttrs_tuple, PySem.F.slot_tuple_count, PySem.F.type_tuple_count, ⟨ob, hg, hc⟩, fun a e => ?_, ?_⟩
  · cases e
    exact ⟨ob, hg, hd⟩
  have hA := ha.run cpos pins s1 σ H1 _ I1 q1
  rw [hs] at hA ⊢
  refine Calls.callWith_builtin (by show (false || (backTo cpos (starEach es X.env)).any (·.1)) = false; rw [hplain] <;> rfl) (Calls.evalArgs_plain ?_)
  exact thn hA fun us s2 ⟨vs, H2, I2, r2, q2⟩ => mt_tcount pins s2 σ H2 (.ref p) vs (.ref p) us Q I2 rfl r2 q2
end XU
namespace DL
open PySem PySem.Spec PyProof.Rows L2 LamX RZ RD RE TL XE XA XB XC XD XK
section
variable {K : PySem.W.Frag} {B : Bx} {Γ : Gam} {te ta tb tc : TE} {tr : TA} {wi : TI} {g : TG} {w : World} {tt : TT} {P : D → Prop}
/-- len({.. for .. in x}), nothing in x -/
theorem ev_lenSc0 {vs : List Nat} (h : EvI K B wi Γ fun ds => ds = [] ∧ P (.int 0)) : Ev K B (tCB (XU.rLenB w) (tCons (PpSet.tSc w wi g tt te vs) tNil)) Γ P := fun M σ H Q gd x q =>
  h M σ H _ gd x fun J H1 ds r ⟨e, p⟩ wk D hD => by
    subst e
    have g1 := gd.r r
    refine ⟨fun i m H2 => i = 0 ∧ H2 = upd H1 D (PpSet.SetBO w D (fun _ => false) 0), ⟨0, rfl, rfl⟩, ?_⟩
    rintro i m H2 ⟨rfl, rfl⟩
    have r2 : R K B H1 (upd H1 D (PpSet.SetBO w D (fun _ => false) 0)) := g1.new hD
    refine .inl ⟨(wk M (fun _ h => h) (fun _ h => .inl h) _ (g1.r r2) (r2.v g1.no)).2, D, _, 0, rfl, upd_same, by omega, ?_⟩
    exact q _ _ _ (r.trans r2) p (.int 0)
/-- len(set(e)), e a list or a tuple of texts -/
theorem ev_lenSetT (h : Ev K B ta Γ fun d => ∃ zs : List Str, (d = .lst (zs.map D.str) ∨ d = .tup (zs.map D.str)) ∧ zs.length ≤ 1000 ∧ P (.int ((XT.once zs).length : Nat))) : Ev K B (XT.tLenSetT K ta) Γ P := fun M σ H Q g x q =>
  h M σ H _ g x fun v H1 d r ⟨zs, e, hz, p⟩ dn => by
    have key : ∀ {vs : List V}, DenAll K (hid M H1) (zs.map D.str) vs → vs = zs.map V.str := by
      clear hz p e
      induction zs with
      | nil => intro vs h; cases h; rfl
      | cons z zs ih =>
        intro vs h
        cases h with
        | cons h1 h2 =>
          cases h1
          rw [ih h2]; rfl
    rcases e with e | e
    · subst e
      cases dn with
      | lst a1 a2 =>
        have e2 := key a2
        subst e2
        exact ⟨_, zs, rfl, .inl (SqL.of (hid_get a1).2), hz, q _ H1 _ r p (.int _)⟩
    · subst e
      cases dn with
      | tup a1 a2 =>
        have e2 := key a2
        subst e2
        exact ⟨_, zs, rfl, .inr (SqT.sub hid_sub a1), hz, q _ H1 _ r p (.int _)⟩
/-- a tuple that is known to have no dict of its own -/
theorem ev_tupZ {t : TA} (h : EvA K B t Γ fun ds => ds.length ≤ sizeLine ∧ P (.tpz ds)) : Ev K B (XU.tTupZ t) Γ P := fun M σ H Q gd x q =>
  h M σ H _ gd x fun vs H1 ds r ⟨hl, p⟩ dn => by
    have g1 := gd.r r
    refine ⟨by rw [← dn.length]; exact hl, fun a o ha ho => ?_⟩
    refine q _ _ _ (r.trans (g1.new ha)) p (.tpz (hid_of (fun m => (g1.there a m).1 ha) upd_same) ho ?_)
    exact g1.dens (g1.new ha) dn
/-- .. it is a tuple like others -/
theorem ev_varZ {i : Nat} {ds : List D} (hi : Γ[i]? = some (some (.tpz ds))) (p : P (.tup ds)) : Ev K B (tVar i) Γ P := fun M σ H Q gd x q =>
  ev_var (P := fun d => d = .tpz ds) hi rfl M σ H Q gd x fun v H' d r e dn => by
    subst e
    cases dn with
    | tpz a1 a2 a3 => exact q _ H' _ r p (.tup (.inl (.inr ⟨_, a1⟩)) a3)
theorem str_dens {H : Hp} : ∀ {zs : List Str} {vs : List V}, DenAll K H (zs.map D.str) vs → vs = zs.map V.str
  | [], _, h => by cases h; rfl
  | z :: zs, _, h => by
    cases h with
    | cons h1 h2 =>
      cases h1
      rw [str_dens h2]; rfl
/-- x.count(y), x such a tuple, of texts -/
theorem ev_tcountZ {t : TA} (h : Ev K B ta Γ fun d => ∃ zs : List Str, d = .tpz (zs.map D.str) ∧ EvA K B t Γ fun es => ∃ y : Str, es = [.str y] ∧ P (.int ((zs.map V.str).countP fun z => eqV z (.str y) : Nat))) :
    Ev K B (XU.tCntZ K ta t) Γ P := fun M σ H Q g x q =>
  h M σ H _ g x fun v1 H1 d r1 ⟨zs, e1, p1⟩ d1 => by
    subst e1
    cases d1 with
    | @tpz a o xs _ a1 a2 a3 =>
      obtain ⟨ma, ha⟩ := hid_get a1
      have e3 := str_dens a3
      subst e3
      refine ⟨⟨a, o, _, rfl, ha, a2⟩, p1 M σ H1 _ (g.r r1) (x.r g r1) fun vs H2 es r2 ⟨y, e2, p⟩ d2 => ?_⟩
      subst e2
      cases d2 with
      | cons c1 c2 =>
        cases c2
        cases c1
        refine ⟨a, _, _, rfl, rfl, .inl (.inr ⟨o, ?_⟩), rfl, ?_, q _ H2 _ (r1.trans r2) p (.int _)⟩
        · exact (hid_get ((g.r r1).sub' r2 _ _ a1)).2
        · rw [List.all_map]
          exact List.all_eq_true.mpr fun _ _ => rfl
end
end DL

set_option maxHeartbeats 4000000
/-! tuples of ints and texts as keys; dicts with such keys, owned -/
namespace DL
open PySem PySem.Spec PyProof.Rows L2 LamX RZ RD RE TL XE XA XB XC XD XK
mutual
/-- what is known of a made tuple, forgotten -/
def wkD : D → D
  | .tph ks => .tup (ks.map keyD)
  | .tpz ds => .tup (wkDs ds)
  | .tup ds => .tup (wkDs ds)
  | .lst ds => .lst (wkDs ds)
  | d => d
def wkDs : List D → List D
  | [] => []
  | d :: ds => wkD d :: wkDs ds
end
theorem wkDs_map : ∀ ds : List D, wkDs ds = ds.map wkD
  | [] => rfl
  | d :: ds => by
    show wkD d :: wkDs ds = wkD d :: ds.map wkD
    rw [wkDs_map ds]
section
variable {K : PySem.W.Frag} {H : Hp}
theorem keys_den : ∀ ks : List Key, DenAll K H (ks.map keyD) (ks.map kV)
  | [] => .nil
  | .inl i :: ks => .cons (.int i) (keys_den ks)
  | .inr x :: ks => .cons (.str x) (keys_den ks)
theorem keys_of : ∀ {ks : List Key} {vs : List V}, DenAll K H (ks.map keyD) vs → vs = ks.map kV
  | [], _, h => by cases h; rfl
  | k :: ks, _, h => by
    cases h with
    | cons h1 h2 => rw [keyD_den h1, keys_of h2]; rfl
mutual
theorem Den.wk : ∀ (d : D) (v : V), Den K H d v → Den K H (wkD d) v
  | .non, _, h => h
  | .bl _, _, h => h
  | .int _, _, h => h
  | .str _, _, h => h
  | .ty _, _, h => h
  | .obj _, _, h => h
  | .lst ds, _, h => by
    cases h with
    | lst h1 h2 => exact .lst h1 (DenAll.wk ds _ h2)
  | .tup ds, _, h => by
    cases h with
    | tup h1 h2 => exact .tup h1 (DenAll.wk ds _ h2)
  | .tpz ds, _, h => by
    cases h with
    | tpz h1 h2 h3 => exact .tup (.inl (.inr ⟨_, h1⟩)) (DenAll.wk ds _ h3)
  | .tph ks, _, h => by
    cases h with
    | tph h1 => exact .tup (.inl (.inl h1)) (keys_den ks)
  | .ins _ _ _, _, h => h
  | .dK _ _ _, _, h => h
  | .exc _ _ _, _, h => h
  | .dT _ _ _, _, h => h
  | .fn _ _ _ _ _, _, h => h
theorem DenAll.wk : ∀ (ds : List D) (vs : List V), DenAll K H ds vs → DenAll K H (wkDs ds) vs
  | [], _, h => h
  | d :: ds, _, h => by
    cases h with
    | cons h1 h2 => exact .cons (Den.wk d _ h1) (DenAll.wk ds _ h2)
end
end
section
variable {K : PySem.W.Frag} {B : Bx} {H0 H H1 : Hp} {M0 : List Addr} {Γ : Gam} {Ω : Own} {Pn : Pso} {te td ty tv ta tb : TE} {tr : TA} {P : D → Prop} {κ : Type}
theorem ev_wk (h : Ev K B te Γ fun d => P (wkD d)) : Ev K B te Γ P := fun M σ H Q g x q => h M σ H Q g x fun v H' d r p dn => q v H' (wkD d) r p (Den.wk d v dn)
/-- tuple(list), a key -/
theorem ev_tupleOfH (h : EvA K B tr Γ fun ds => ∃ ks : List Key, ds = [.lst (ks.map keyD)] ∧ P (.tph ks)) : Ev K B (tCB (fun xs H Q => ∃ p ys, xs = [.ref p] ∧ ((SqL K H p ys ∧ ∀ l, H l = none → Q (.ref l) (upd H l (.tup ys))) ∨ (SqT K H p ys ∧ Q (.ref p) H))) tr) Γ P := fun M σ H Q g x q =>
  h M σ H _ g x fun vs H1 ds r ⟨ks, e, p⟩ dn => by
    subst e
    have g1 := g.r r
    cases dn with
    | cons d1 dn =>
      cases dn
      cases d1 with
      | @lst _ xs _ ha hd =>
        have e := keys_of hd
        subst e
        refine ⟨_, _, rfl, .inl ⟨SqL.of (hid_get ha).2, fun l hl => ?_⟩⟩
        exact q _ _ _ (r.trans (g1.new hl)) p (.tph (hid_of (g1.fresh hl) upd_same))
/-- a tuple display, a key -/
theorem ev_tupH (h : EvA K B tr Γ fun ds => ∃ ks : List Key, ds = ks.map keyD ∧ ks.length ≤ sizeLine ∧ P (.tph ks)) : Ev K B (tTup tr) Γ P := fun M σ H Q g x q =>
  h M σ H _ g x fun vs H1 ds r ⟨ks, e, hl, p⟩ dn => by
    subst e
    have g1 := g.r r
    have e := keys_of dn
    subst e
    refine ⟨by rw [List.length_map]; exact hl, fun l hl => ?_⟩
    exact q _ _ _ (r.trans (g1.new hl)) p (.tph (hid_of (g1.fresh hl) upd_same))
/-- t + u, keys -/
theorem ev_catH (h : Ev K B ta Γ fun d => Ev K B tb Γ fun e => ∃ ks ms : List Key, d = .tph ks ∧ e = .tph ms ∧ ks ≠ [] ∧ ms ≠ [] ∧ ks.length + ms.length ≤ sizeLine ∧ P (.tph (ks ++ ms))) : Ev K B (tOp (rCatT K) ta tb) Γ P :=
  ev_op (h.mono fun d hd => hd.mono fun e ⟨ks, ms, e1, e2, nx, ny, hl, p⟩ => fun M H x y Q gd dx dy q => by
    subst e1 e2
    cases dx with
    | @tph a _ h1 =>
      cases dy with
      | @tph b _ h3 =>
        refine ⟨a, b, ks.map kV, ms.map kV, rfl, rfl, .inl (.inl (hid_get h1).2), .inl (.inl (hid_get h3).2), fun z => nx (List.map_eq_nil_iff.mp z), by rw [List.length_map, List.length_map]; exact hl, fun z => absurd (List.map_eq_nil_iff.mp z) ny, fun _ p' hp => ?_⟩
        exact q _ _ (.tph (ks ++ ms)) (gd.new hp) p (.tph (by rw [List.map_append]; exact hid_of (gd.fresh hp) upd_same)))
def memK [DecidableEq κ] (ks : List κ) (k : κ) : Bool := ks.any fun m => decide (m = k)
theorem memK_iff [DecidableEq κ] {ks : List κ} {k : κ} : memK ks k = true ↔ k ∈ ks := by
  unfold memK
  rw [List.any_eq_true]
  exact ⟨fun ⟨m, hm, e⟩ => of_decide_eq_true e ▸ hm, fun h => ⟨k, h, decide_eq_true rfl⟩⟩
theorem valK_zip [DecidableEq κ] : ∀ {ks : List κ} {vs : List V} (k : κ), ks.length = vs.length → (valV (ks.zip vs) k).isSome = memK ks k
  | [], vs, k, _ => by simp [valV, memK]
  | m :: ks, [], k, h => by cases h
  | m :: ks, w :: vs, k, h => by
    by_cases e : m = k
    · rw [List.zip_cons_cons, valV_pos (p := (m, w)) e]
      simp [memK, e]
    · rw [List.zip_cons_cons, valV_neg (p := (m, w)) e, valK_zip k (by simpa using h)]
      simp [memK, e]
/-- k in d, tuples as keys -/
theorem ev_dinT (h : Ev K B ty Γ fun e => Ev K B td Γ fun d => ∃ (fz : Bool) (ks : List (List Key)) (ds : List D) (k : List Key), d = .dT fz ks ds ∧ e = .tph k ∧ P (.bl (memK ks k))) : Ev K B (tDIn ty td) Γ P := fun M σ H Q g x q =>
  h M σ H _ g x fun u H1 e r1 p1 d1 => p1 M σ H1 _ (g.r r1) (x.r g r1) fun v H2 d r2 ⟨fz, ks, ds, k, e1, e2, p⟩ d2 => by
    subst e1 e2
    cases d1 with
    | tph h1 =>
      obtain ⟨a, vs, ev, ha, ln, dn⟩ := d2.rdT
      subst ev
      refine ⟨a, valV (ks.zip vs) k, rfl, .inr ⟨_, k, _, rd_hid ha, rfl, (hid_get ((g.r r1).sub' r2 _ _ h1)).2, rfl⟩, ?_⟩
      rw [valK_zip k ln]
      exact q _ H2 _ (r1.trans r2) p (.bl _)
/-- x = {}, keys will be tuples -/
theorem rw_ownT {i : Nat} (h : ∀ p, Pn.nx (Γ.set i (some (.obj p))) ((p, .dT [] []) :: Ω)) : Rw K B (tAsg tDNewT (gName i)) H0 M0 Γ Ω Pn := fun σ H E s x k1 k2 k3 k4 => fun a ha => by
  have nb := s.good.fresh_b ha
  have nl := s.good.fresh_l ha
  have na : a ∉ keysO Ω ++ M0 := s.good.fresh ha
  have r2 : R K B H (upd H a (.dT [])) := s.good.new ha
  have su : ∀ b o, hid (keysO Ω ++ M0) H b = some o → hid (a :: (keysO Ω ++ M0)) (upd H a (.dT [])) b = some o := hid_own ha
  refine k1 _ _ _ ((a, .dT [] []) :: Ω) ⟨fun b o e => (hid_get (su b o e)).2, fun q hq => (List.mem_cons.mp hq).elim (fun e => .inr (by rw [e]; exact ha)) .inl, fun b hb z => hb (r2.none s.good z)⟩
    ⟨s.r.trans r2, s.good.own ha, s.m0, fun q hq => ?_, List.nodup_cons.mpr ⟨fun z => na (List.mem_append_left _ z), s.nd⟩, fun q c hc => ?_⟩ ((x.sub su).set (.obj a)) (h a)
  · rcases List.mem_cons.mp hq with e | hq
    · rw [e]; exact s.old ha
    · exact s.fr q hq
  · rcases List.mem_cons.mp hc with e | hc
    · obtain ⟨e1, e2⟩ := Prod.mk.inj e
      subst e1 e2
      exact ⟨[], upd_same, rfl, .nil⟩
    · exact (s.cell q c hc).sub (fun o e => r2.two q o e (s.nb (List.mem_map.mpr ⟨(q, c), hc, rfl⟩)).1) su
theorem rw_asg {g : TG} (vs : List Nat) (h : Ev K B te Γ fun d => EvG K B g vs Γ d fun Γ' => Pn.nx Γ' Ω) : Rw K B (tAsg te g) H0 M0 Γ Ω Pn := fun σ H E s x k1 k2 k3 k4 =>
  h _ σ H _ s.good x fun v H1 d r p dn => p _ σ H1 v _ (s.good.r r) (x.r s.good r) dn fun σ' Γ' pg x' _ _ => k1 σ' H1 Γ' Ω (r.go s.m0 s) (s.step r) x' pg
/-- d[k] = e, k a new key, a tuple -/
theorem rw_dputT {i j : Nat} {p : Addr} {ks : List (List Key)} {ds : List D} (hi : Γ[i]? = some (some (.obj p))) (hj : Ω[j]? = some (p, .dT ks ds)) (hz : ks.length < sizeLine)
    (h : Ev K B tv Γ fun d => Ev K B ty Γ fun e => ∃ k, e = .tph k ∧ k ∉ ks ∧ Pn.nx Γ (Ω.set j (p, .dT (ks ++ [k]) (ds ++ [d])))) : Rw K B (sDPut (tVar i) ty tv) H0 M0 Γ Ω Pn := fun σ H E s x k1 k2 k3 k4 => by
  refine h _ σ H _ s.good x fun v H1 d r1 p1 d1 => ?_
  have s1 := s.step r1
  have x1 := x.r s.good r1
  obtain ⟨vi, h1, h2⟩ := x1.at_ i _ hi
  cases h2
  refine ⟨_, h1, ?_⟩
  refine p1 _ σ H1 _ s1.good x1 fun u H2 e r2 ⟨k, e1, nk, pn⟩ d2 => ?_
  subst e1
  have s2 := s1.step r2
  have d1' := s1.good.den r2 d1
  obtain ⟨vs, hp, ln, dv⟩ := s2.cell p _ (List.mem_of_getElem? hj)
  have hq : ∀ o, hid (keysO Ω ++ M0) (upd H2 p o) = hid (keysO Ω ++ M0) H2 := fun o => hid_put (List.mem_append_left _ (StO.key hj))
  have ep : putK (ks.zip vs) k v = (ks ++ [k]).zip (vs ++ [v]) := by
    unfold putK
    rw [if_neg (by
      rw [List.any_eq_true]
      rintro ⟨r, hr, hd⟩
      have := (List.of_mem_zip (show (r.1, r.2) ∈ ks.zip vs from hr)).1
      rw [of_decide_eq_true hd] at this
      exact nk this), List.zip_append ln]
    rfl
  cases d2 with
  | tph hk =>
    refine ⟨p, _, rfl, .inr ⟨ks.zip vs, k, _, hp, rfl, (hid_get hk).2, by rw [List.length_zip]; omega, rfl⟩, ?_⟩
    rw [ep]
    refine k1 _ _ Γ (Ω.set j (p, .dT (ks ++ [k]) (ds ++ [d]))) (((r1.go s.m0 s).trans (r2.go s.m0 s1)).trans (Go.upd hj (keysO_set hj))) (s2.putC hj ⟨vs ++ [v], upd_same, by rw [List.length_append, List.length_append, ln]; rfl, by rw [hq]; exact dv.snoc d1'⟩) ?_ pn
    rw [keysO_set hj]
    exact (x1.r s1.good r2).sub fun b o hb => by rw [hq]; exact hb
end
end DL

set_option maxHeartbeats 4000000
/-! len of a dict with ints and texts as keys -/
namespace XW
open PySem PySem.Spec PyProof.Rows L2
/-- len(d) -/
def rLenK : List V → Hp → VK → Prop := fun xs H Q => ∃ (p : Addr) (kvs : List (Key × V)), xs = [.ref p] ∧ Rd H p (.dK kvs) ∧ Q (.int ((kvs.length : Nat) : Int)) H
theorem call_lenK {X : Cx} : CallR X (.builtin "len") rLenK := by
  intro pins s σ H xs us Q I r h
  obtain ⟨p, kvs, rfl, hp, q⟩ := h
  obtain ⟨u, rfl, rx⟩ := vals1 r
  cases rx
  obtain ⟨z, hd, vs, rel, dd⟩ := dk_rd I.hok hp
  have e : kvs.length = vs.length := rel.length
  refine call_len_dict hd dd (by rw [← e]; rw [sizeLine_eq] at z; omega) ⟨.int ((kvs.length : Nat) : Int), H, I.tok _, ⟨_, by rw [e]⟩, q⟩
end XW
namespace DL
open PySem PySem.Spec PyProof.Rows L2 LamX RZ RD RE TL XE XA XB XC XD XK
section
variable {K : PySem.W.Frag} {B : Bx} {Γ : Gam} {tr : TA} {P : D → Prop}
theorem ev_lenK (h : EvA K B tr Γ fun ds => ∃ fz ks es, ds = [.dK fz ks es] ∧ P (.int (ks.length : Nat))) : Ev K B (tCB XW.rLenK tr) Γ P := fun M σ H Q g x q =>
  h M σ H _ g x fun vs H1 ds r ⟨fz, ks, es, e, p⟩ dn => by
    subst e
    cases dn with
    | cons d1 dn =>
      cases dn
      obtain ⟨a, us, ev, ha, ln, dn⟩ := d1.rdK
      subst ev
      refine ⟨a, _, rfl, rd_hid ha, ?_⟩
      rw [List.length_zip, ← ln, Nat.min_self]
      exact q _ H1 _ r p (.int _)
end
end DL

set_option maxHeartbeats 4000000
/-! dict comprehensions whose keys are tuples -/
namespace XX
open PySem PySem.Spec PyProof.Rows L2
/-- the object behind d[y] = z, tuples as keys -/
def PutT (H : Hp) (d : Addr) (y z : V) (H6 : Hp) : Prop := ∃ (kz : List (List Key × V)) (k : List Key) (b : Addr), H d = some (.dT kz) ∧ y = .ref b ∧ H b = some (.tup (k.map kV)) ∧ kz.length < sizeLine ∧ H6 = upd H d (.dT (putK kz k z))
theorem dictSet_T {Y : Cx} {pins : List (Addr × Obj)} {σ : L2.St} {H H6 : Hp} {s : Shared} {E : Value → Shared → Prop} {d : Addr} {y z : V} {u r : Value} {Q : Unit → Shared → Prop} (hu : (tupleKind (mixKind Y.prog Y.w)).room Y.A) (I : Inv Y pins σ H s) (g : PutT H d y z H6)
    (ry : RelV y u) (rz : RelV z r) (h : ∀ s', Inv Y pins σ H6 s' → Q () s') : wpAny (model Y.prog Y.w) Y.A (dictSet d u r) Q E s := by
  obtain ⟨kz, k, b, e, ey, eb, l, eH⟩ := g
  subst ey eH
  cases (show u = Value.ref b from ry)
  obtain ⟨n1, n2, xs, rel, dd⟩ := dt_of I.hok e
  have few : xs.length ≤ sizeLine := by rw [← Paired.length rel]; exact n1
  have more : (putK kz k z).length ≤ sizeLine := by have := length_putK kz k z; omega
  refine wpAny_dictSet_heap (hsz := few) hu (key_of I.hok eb) dd fun h' dd' hs => h _ ?_
  obtain ⟨o, es, ep, hq, h2, h3, h4, _, h5⟩ := dd'
  refine d_write I (by rw [e]; exact True.intro) hs ⟨o, hq⟩ ⟨more, n2, _, (rel.put k eb rz).keeps fun c ys ec => ?_, o, es, ep, hq, h2, h3, h4, h5⟩
  rw [upd_ne (ne_of ec e (fun w => nomatch w))]
  exact ec
section
variable {X : Cx}
/-- {k: v for target in iter if ..}, keys tuples: d the new dict -/
def tDcT (wi : TI) (g : TG) (tt : TT) (tk tv : TE) (vs : List Nat) : TE := fun σ H Q => wi σ H fun J H1 => ∀ d, H1 d = none → ∃ W : Nat → Nat → Hp → Prop, (∃ m, W 0 m (upd H1 d (.dT []))) ∧ ∀ i m H, W i m H →
  (J.stop i H ∧ Q (.ref d) H) ∨ (J.go i H ∧ ∃ Nx : Hp → Prop, (∀ H', Nx H' → ∃ m', m' < m ∧ W (i + 1) m' H') ∧ ∀ x H', J.yld i H x H' → g x (wipe σ vs) H' fun σ2 H2 => wipe σ2 vs = wipe σ vs ∧ tt σ2 H2 fun b H3 =>
    if b = true then tk σ2 H3 fun y H4 => tv σ2 H4 fun z H5 => ∃ H6, PutT H5 d y z H6 ∧ Nx H6 else Nx H3)
theorem pe_dcT {kx vx tg iter : Expr} {ifs : List Expr} {scope : Scope} {own : List (Str × Nat)} {pos : Pos} {wi : TI} {g : TG} {tt : TT} {tk tv : TE} (hu : (tupleKind (mixKind X.prog X.w)).room X.A) (hc : X.calm = true) (hN : X.N.Nodup) (hi : PI X tg iter wi) (ok : BlkOk X.N X.env.scope scope own)
    (hg : ∀ (s : Shared) (H : Hp) (C : Addr) (cl : List (Str × Addr)) (fp : List Addr), PG (X.blk s H scope (compEnvC scope cl C X.env) fp) tg g) (ht : ∀ (s : Shared) (H : Hp) (C : Addr) (cl : List (Str × Addr)) (fp : List Addr), PTs (X.blk s H scope (compEnvC scope cl C X.env) fp) ifs tt)
    (hk : ∀ (s : Shared) (H : Hp) (C : Addr) (cl : List (Str × Addr)) (fp : List Addr), PE (X.blk s H scope (compEnvC scope cl C X.env) fp) kx tk)
    (he : ∀ (s : Shared) (H : Hp) (C : Addr) (cl : List (Str × Addr)) (fp : List Addr), PE (X.blk s H scope (compEnvC scope cl C X.env) fp) vx tv) (hs : ∀ x, foldedSetIterable iter X.env x = pure x := by intro _; rfl) :
    PE X (.DictComp kx vx [⟨tg, iter, ifs, 0⟩] scope pos) (tDcT wi g tt tk tv (own.map (·.2))) := by
  refine ⟨fun pins s σ H Q I h => ?_⟩
  rw [arm_eval_DictComp]
  have frees : ∀ y ∈ scope.names, y.2 = .free → ∃ c, X.env.cells.lookup y.1 = some c := fun y hy e => (ok.free y hy e).elim (fun k => I.ok.has _ (.inl k)) fun k => I.ok.has _ (.inr k)
  refine wpAny_comprehension_free rfl hs (closure_ok frees) ok.kind (fun y hy e => by rw [ok.uniq y hy, e]) (thn (hi.run pins s σ H _ I h) fun xv s1 hx => thn hx fun itv s2 h2 => ?_)
  obtain ⟨it, fp, tn, J, H2, e, I2, T, st2, f2, q⟩ := h2
  subst e
  refine wpAny_newObj_type (newEnv_comp ?_)
  obtain ⟨d, hd⟩ : ∃ d, s2.heap.objs.size = d := ⟨_, rfl⟩
  rw [hd]
  obtain ⟨W, ⟨m0, w0⟩, turn⟩ := q d (I2.hok.fresh (Nat.le_of_eq hd))
  -- the new dict is there
  generalize hs3 : ({ s2 with heap := s2.heap.push { cls := .type "dict", data := .dict #[] } } : Shared) = s3
  have h3 : s3.heap = s2.heap.push { cls := .type "dict", data := .dict #[] } := by rw [← hs3]
  have up3 : ∀ b o, s2.heap.get? b = some o → s3.heap.get? b = some o := fun b o e => by rw [h3]; exact Heap.get?_push_of_some _ e
  have I3 : Inv X pins σ (upd H2 d (.dT [])) s3 := by
    rw [← hs3]
    refine I2.laid (t' := s2.toks) (fun b o e => Heap.get?_push_of_some _ e) (Nat.le_of_eq hd) ?_
    rw [← hd]
    exact dt_empty s2.heap I2.big
  have f3 : ∀ b ∈ fp, FpOk X pins (upd H2 d (.dT [])) b ∧ b < s3.heap.objs.size := fun b hb => by
    obtain ⟨o, e, _⟩ := T.obj _ _ st2 b hb
    have lt := Heap.lt_size e
    exact ⟨⟨by rw [upd_ne (by rw [← hd]; exact Nat.ne_of_lt lt)]; exact (f2 b hb).1, (f2 b hb).2⟩, by rw [h3, Heap.size_push]; exact Nat.lt_succ_of_lt lt⟩
  have I4 := block_start I3 ok hN f3
  let cl := cellsFrom (s3.heap.objs.size + 1) scope.names (cloFrom X.env.cells scope.names [])
  have bg := hg s3 (upd H2 d (.dT [])) s3.heap.objs.size cl fp
  have bt := ht s3 (upd H2 d (.dT [])) s3.heap.objs.size cl fp
  have bk := hk s3 (upd H2 d (.dT [])) s3.heap.objs.size cl fp
  have bv := he s3 (upd H2 d (.dT [])) s3.heap.objs.size cl fp
  have left : ∀ b ∈ fp, (upd H2 d (.dT [])) b = none := fun b hb => (f3 b hb).1.1
  show codeAny _ _ (.compStart (.DictComp kx vx [⟨tg, iter, ifs, 0⟩] scope pos) 0 (.ref it) (.ref d) (compEnvC scope cl s3.heap.objs.size X.env)) _ { s3 with heap := pushCells (s3.heap.push { cls := .type "dict", data := .dict #[] }) scope.names }
  generalize hce : compEnvC scope cl s3.heap.objs.size X.env = ce at I4 bg bt bk bv ⊢
  have at_ : ce.locals = s3.heap.objs.size := by subst hce; rfl
  generalize hH3 : upd H2 d (.dT []) = H3 at I3 I4 bg bt bk bv w0 left f3
  generalize hs4 : ({ s3 with heap := pushCells (s3.heap.push { cls := .type "dict", data := .dict #[] }) scope.names } : Shared) = s4 at I4 ⊢
  have st4 : tn 0 s4.heap := T.keep _ _ _ st2 fun b _ o e => by rw [← hs4]; exact pushCells_keeps _ _ _ _ (Heap.get?_push_of_some _ (up3 b o e))
  have kept : ∀ {σ' : L2.St} {H' : Hp} {s' : Shared}, Inv (X.blk s3 H3 scope ce fp) [] σ' H' s' → (∀ b ∈ fp, H' b = none) → ∀ b ∈ fp, FpOk (X.blk s3 H3 scope ce fp) [] H' b := fun {σ' H' s'} I' n b hb =>
    ⟨n b hb, (I'.ok.exf b hb).1, I'.ok.exfs b hb, .inl hb, fun x c e => (I'.ok.exf b hb).2 x c e, fun p hp => absurd (show p ∈ ([] : List (Addr × Obj)) ++ [] from hp) (by simp)⟩
  refine codeAny_compStart_dict ?_ (T.self X.A 0 _ _ _ st4 ?_)
  all_goals
    refine compLoop_anyD (fun n s' => ∃ i H', Inv (X.blk s3 H3 scope ce fp) [] (wipe σ (own.map (·.2))) H' s' ∧ tn i s'.heap ∧ (∀ b ∈ fp, H' b = none) ∧ W i n H') ?_ m0 ⟨0, H3, I4, st4, left, w0⟩
    rintro n s5 ⟨i, H5, I5, st5, n5, w5⟩
    rcases turn i n H5 w5 with ⟨stop, qq⟩ | ⟨go, Nx, less, step⟩
    · refine thnF (T.done (X.blk s3 H3 scope ce fp) rfl rfl rfl hc i [] s5 _ H5 (fun _ _ => False) I5 (kept I5 n5) st5 stop) fun r s6 ⟨hr, I6⟩ => ?_
      subst hr
      have I7 : Inv X pins σ H5 s6 := I3.call' (ch := fp) I6.os I6.base I6.hok I6.bare fun b hb => ⟨(f3 b hb).1.2.2.2.1, (f3 b hb).1.2.1, (f3 b hb).1.2.2.2.2.1, (f3 b hb).1.2.2.2.2.2⟩
      have nC : H5 s3.heap.objs.size = none := by
        rw [← at_]
        exact I6.free
      obtain ⟨m, hn, _⟩ := I6.loc
      have hn : s6.heap.Ns s3.heap.objs.size m := by
        rw [← at_]
        exact hn
      obtain ⟨a0, a1, a2, a3, a4, a5⟩ := I3.fpOk (Nat.le_refl _) nC
      exact ⟨m, hn, fun h2 sb => ⟨.ref d, H5, I7.turned (t' := s6.toks) (fun b o hb e => (sb.2 b hb).trans e) a0 a1 a3 a4 a5, rfl, qq⟩⟩
    · refine thnF (T.item (X.blk s3 H3 scope ce fp) rfl rfl rfl hc i [] s5 _ H5 (fun _ _ => False) I5 (kept I5 n5) st5 go) fun r s6 ⟨u, hr, h6⟩ => ?_
      subst hr
      refine thnF h6 fun _ s7 ⟨x, H7, I7, r7, y7, st7, n7⟩ => ?_
      have obj7 := T.obj _ _ st7
      refine thnF (bg.run _ s7 _ H7 x u _ (I7.pinned (kept I7 n7) obj7) r7 (step x H7 y7)) fun _ s8 ⟨σ8, H8, I8, hw8, q8⟩ => ?_
      refine thnF (bt.run _ s8 σ8 H8 _ I8 q8) fun yes s9 ⟨H9, I9, q9⟩ => ?_
      -- the turn is over
      have over : ∀ {s' : Shared} {H' : Hp}, Inv (X.blk s3 H3 scope ce fp) ([] ++ pinsAt fp s7.heap) σ8 H' s' → Nx H' → ∃ m, m < n ∧ ∃ i H', Inv (X.blk s3 H3 scope ce fp) [] (wipe σ (own.map (·.2))) H' s' ∧ tn i s'.heap ∧ (∀ b ∈ fp, H' b = none) ∧ W i m H' := fun {s' H'} I' nx => by
        obtain ⟨m', hm, w'⟩ := less H' nx
        have pin : ∀ b ∈ fp, ∀ o, s7.heap.get? b = some o → s'.heap.get? b = some o ∧ H' b = none := fun b hb o e =>
          have z := I'.pin (b, o) (List.mem_append_right _ (List.mem_append_right _ (mem_pinsAt hb e)))
          ⟨z.1, z.2.1⟩
        refine ⟨m', hm, i + 1, H', (I'.unpinned (pins := [])).weak (by rw [← hw8, wipe_length]) (fun j v e => ?_), T.keep _ _ _ st7 fun b hb o e => (pin b hb o e).1, fun b hb => ?_, w'⟩
        · rw [← hw8] at e
          exact (wipe_some e).1
        · obtain ⟨o, e, _⟩ := obj7 b hb
          exact (pin b hb o e).2
      cases yes with
      | false =>
        rw [if_neg Bool.false_ne_true] at q9
        show if false = true then _ else _
        rw [if_neg Bool.false_ne_true]
        exact over I9 q9
      | true =>
        rw [if_pos rfl] at q9
        show if true = true then _ else _
        rw [if_pos rfl]
        refine thnF (bk.run _ s9 σ8 H9 _ I9 q9) fun ku sa ⟨y, Ha, Ia, ra, qa⟩ => ?_
        refine thnF (bv.run _ sa σ8 Ha _ Ia qa) fun vu sb ⟨z, Hb, Ib, rb, H6, put, nx⟩ => ?_
        exact dictSet_T (Y := X.blk s3 H3 scope ce fp) hu Ib put ra rb fun sc Ic => over Ic nx
end
/-- sorted(..) of tuples, within a comprehension -/
theorem cr_sortTKK {X : Cx} (K : PySem.W.Frag) (hK : X.K = K := by rfl) : CallR X (.builtin "sorted") (RE.rSortTK K) := by
  subst hK
  exact RE.cr_sortTK
end XX
namespace DL
open PySem PySem.Spec PyProof.Rows L2 LamX RZ RD RE TL XE XA XB XC XD XK
section
variable {K : PySem.W.Frag} {B : Bx} {Γ : Gam} {tk tv : TE} {tt : TT} {wi : TI} {g : TG} {P : D → Prop}
/-- {k: v for a in x if t}, tuples as keys, all unlike, by an invariant -/
theorem ev_dcT {vs : List Nat} (hi : EvI K B wi Γ fun ds => ds.length < sizeLine ∧ ∃ I : Nat → List (List Key) → List D → Prop, I 0 [] [] ∧
      (∀ i d ks es, ds[i]? = some d → I i ks es → EvG K B g vs (wipeG Γ vs) d fun Γ' => EvT K B tt Γ' fun k => if k = true then Ev K B tk Γ' fun y => ∃ kk, y = .tph kk ∧ kk ∉ ks ∧ Ev K B tv Γ' fun z => I (i + 1) (ks ++ [kk]) (es ++ [z]) else I (i + 1) ks es) ∧
      ∀ ks es, I ds.length ks es → P (.dT false ks es)) : Ev K B (XX.tDcT wi g tt tk tv vs) Γ P := fun M σ H Q gd x q =>
  hi M σ H _ gd x fun J H1 ds r1 ⟨hz, I, i0, it, ie⟩ wk p hp => by
    have g1' := gd.r r1
    have x1 := x.r gd r1
    have pb := g1'.fresh_b hp
    have pl := g1'.fresh_l hp
    have w := wk (p :: M) (fun a ha => List.mem_cons_of_mem _ ha) (fun a ha => by
      rcases List.mem_cons.mp ha with e | ha
      · exact .inr (by rw [e]; exact hp)
      · exact .inl ha)
    refine ⟨fun i m H2 => m = ds.length - i ∧ i ≤ ds.length ∧ ∃ ks es av, Good K B (p :: M) H2 ∧ R K B H1 H2 ∧ H2 p = some (.dT (ks.zip av)) ∧ ks.length = av.length ∧ ks.length ≤ i ∧ DenAll K (hid (p :: M) H2) es av ∧ I i ks es,
      ⟨ds.length, by simp, Nat.zero_le _, [], [], [], g1'.own hp, g1'.new hp, upd_same, rfl, Nat.le_refl _, .nil, i0⟩, ?_⟩
    rintro i m H2 ⟨rfl, hil, ks, es, av, g2, r2, hp2, ln, lk, da, hI⟩
    obtain ⟨wy, ws⟩ := w H2 g2 (r2.v g2.no)
    by_cases hlt : i < ds.length
    · have hd : ds[i]? = some ds[i] := List.getElem?_eq_getElem hlt
      obtain ⟨wg, wn⟩ := wy i _ hd
      refine .inr ⟨wg, fun H3 => ∃ ks es av, Good K B (p :: M) H3 ∧ R K B H1 H3 ∧ H3 p = some (.dT (ks.zip av)) ∧ ks.length = av.length ∧ ks.length ≤ i + 1 ∧ DenAll K (hid (p :: M) H3) es av ∧ I (i + 1) ks es,
        fun H' h' => ⟨ds.length - (i + 1), by omega, rfl, hlt, h'⟩, fun v H3 hy => ?_⟩
      obtain ⟨r3, dv⟩ := wn v H3 hy
      have g3 := g2.r r3
      have x3 : EnvOk K (p :: M) H3 σ Γ := env_behind x1 hp (r2.trans r3) g1'.no
      refine it i _ ks es hd hI (p :: M) (L2.wipe σ vs) H3 v _ g3 (x3.wipe vs) dv fun σ' Γ' pg x4 hlen hout => ?_
      refine ⟨wipe_eq (by rw [hlen, L2.wipe_length]) hout, ?_⟩
      refine pg (p :: M) σ' H3 _ g3 x4 fun k H4 r4 pk => ?_
      have g4 := g3.r r4
      cases k with
      | false =>
        rw [if_neg Bool.false_ne_true] at pk ⊢
        exact ⟨ks, es, av, g4, r2.trans (r3.trans r4), (r3.trans r4).2 p _ hp2 pb, ln, by omega, g2.dens (r3.trans r4) da, pk⟩
      | true =>
        rw [if_pos rfl] at pk ⊢
        refine pk (p :: M) σ' H4 _ g4 (x4.r g3 r4) fun y H5 e r5 ⟨kk, ek, nk, pe⟩ de => ?_
        subst ek
        have g5 := g4.r r5
        refine pe (p :: M) σ' H5 _ g5 ((x4.r g3 r4).r g4 r5) fun z H6 f r6 pf df => ?_
        have g6 := g5.r r6
        have r26 := r3.trans (r4.trans (r5.trans r6))
        have hp6 := r26.2 p _ hp2 pb
        have da6 := g2.dens r26 da
        have ep : putK (ks.zip av) kk z = (ks ++ [kk]).zip (av ++ [z]) := by
          unfold putK
          rw [if_neg (by
            rw [List.any_eq_true]
            rintro ⟨r, hr, hd⟩
            have := (List.of_mem_zip (show (r.1, r.2) ∈ ks.zip av from hr)).1
            rw [of_decide_eq_true hd] at this
            exact nk this), List.zip_append ln]
          rfl
        cases de with
        | @tph b _ hk =>
          have hb := (hid_get (g5.sub' r6 _ _ hk)).2
          refine ⟨_, ⟨ks.zip av, kk, b, hp6, rfl, hb, by rw [List.length_zip]; omega, rfl⟩, ks ++ [kk], es ++ [f], av ++ [z], g6.putOwn pb pl (.of hp6 fun φ z => by cases z) (g1'.h0 hp), (r2.trans r26).putNew hp pb pl (.of hp6 fun φ z => by cases z), ?_, by rw [List.length_append, List.length_append, ln]; rfl, by rw [List.length_append, List.length_singleton]; omega, ?_, pf⟩
          · rw [upd_same, ep]
          · rw [hid_put List.mem_cons_self]
            exact da6.snoc df
    · have e : i = ds.length := by omega
      subst e
      refine .inl ⟨ws, ?_⟩
      exact q _ H2 _ (r1.trans r2) (ie ks es hI) (.dT (hid_of (g1'.fresh hp) hp2) ln (DenAll.sub hid_less _ _ da))
end
end DL
namespace DL
open PySem PySem.Spec PyProof.Rows L2 LamX RZ RD RE TL XE XA XB XC XD XK
section
variable {K : PySem.W.Frag} {B : Bx} {H : Hp} {Γ : Gam} {tr : TA} {P : D → Prop}
theorem den_tph {M : List Addr} {k : List Key} {v : V} (h : Den K (hid M H) (.tph k) v) : ∃ t, v = .ref t ∧ SqT K H t (k.map kV) := by
  cases h with
  | tph h1 => exact ⟨_, rfl, .inl (.inl (hid_get h1).2)⟩
theorem dens_zipH {M : List Addr} : ∀ {kss : List (List Key)} {vs : List V}, DenAll K (hid M H) (kss.map D.tph) vs → ∀ x k, (x, k) ∈ vs.zip kss → Den K (hid M H) (.tph k) x
  | [], _, h, x, k, m => by cases h; simp at m
  | k0 :: kss, _, h, x, k, m => by
    cases h with
    | cons h1 h2 =>
      rw [List.zip_cons_cons] at m
      rcases List.mem_cons.mp m with e | m
      · cases e; exact h1
      · exact dens_zipH h2 x k m
theorem dens_ofH {M : List Addr} : ∀ {prs : List (V × List Key)}, (∀ x k, (x, k) ∈ prs → Den K (hid M H) (.tph k) x) → DenAll K (hid M H) ((prs.map (·.2)).map D.tph) (prs.map (·.1))
  | [], _ => .nil
  | p :: prs, h => .cons (h p.1 p.2 List.mem_cons_self) (dens_ofH fun x k m => h x k (List.mem_cons_of_mem _ m))
/-- sorted of a list of made tuples of ints and texts -/
theorem ev_sortH (h : EvA K B tr Γ fun ds => ∃ kss : List (List Key), ds = [.lst (kss.map D.tph)] ∧ (∃ b sh, ∀ k, k ∈ kss → shapeK k = b :: sh) ∧
    ∀ out : List (List Key), out.Perm kss → out.Pairwise (fun x y => ltL y x = false) → P (.lst (out.map D.tph))) : Ev K B (tCB (rSortTK K) tr) Γ P := fun M σ H Q g x q =>
  h M σ H _ g x fun vs H1 ds r ⟨kss, e, ⟨b, sh, hsh⟩, p⟩ dn => by
    subst e
    have g1 := g.r r
    cases dn with
    | cons d1 dn =>
      cases dn
      cases d1 with
      | @lst a xs _ ha hd =>
        have hl := hd.length
        rw [List.length_map] at hl
        refine ⟨a, xs, kss, b, sh, rfl, SqL.of (hid_get ha).2, hl.symm, hsh, fun y k m => den_tph (dens_zipH hd y k m), fun ys p' pm pw hp => ?_⟩
        have r2 := g1.new (o := .lst (ys.map (·.1))) hp
        have pk : (ys.map (·.2)).Perm kss := by
          have := pm.map (·.2)
          rwa [List.map_snd_zip (by omega)] at this
        refine q _ _ _ (r.trans r2) (p _ pk (List.pairwise_map.mpr pw)) (.lst (hid_of (g1.fresh hp) upd_same) (g1.dens r2 (dens_ofH fun y k m => dens_zipH hd y k (pm.mem_iff.mp m))))
end
end DL

set_option maxHeartbeats 4000000
/-! sorted of a list or tuple of tuples -/
namespace XY
open PySem PyProof.Rows Srt SrtO
section
variable {prog : Program} {w : World} {A : Around} {E : Value → Shared → Prop} {s : Shared}
/-- what stands behind a sort -/
abbrev got1 (h : Heap) (us : List Value) : Heap := (h.push (seqObj "list" #[] 0)).update h.objs.size (Obj.mapSeq (· ++ us.toArray))
theorem collectT {t : Addr} {us : List Value} {Q : List Value → Shared → Prop} (ht : IsTup s.heap t us.toArray) (hz : us.length ≤ sizeLine) (h : Q us { s with heap := got1 s.heap us }) :
    wpAny (model prog w) A (collect (.ref t)) Q E s := by
  obtain ⟨o, eo, co, n, dt⟩ := ht
  unfold collect
  have he : (s.heap.push (seqObj "list" #[] 0)).get? s.heap.objs.size = some (seqObj "list" #[] 0) := Heap.get?_push_size _ rfl
  have eo' : (s.heap.push (seqObj "list" #[] 0)).get? t = some o := Heap.get?_push_of_some _ eo
  refine wpAny_bind (wpAny_runValue (codeAny_builtin entry_proto_collect' (?_ : wpAny (model prog w) _ (do again (.builtin "list.__iadd__" ⟨[← newList [], .ref t], []⟩)) _ _ s)))
  refine wpAny_bind (wpAny_newList (wpAny_pure ⟨Code.quiet_builtin _ (by decide +kernel), codeAny_builtin entry_list_iadd'
    (?_ : wpAny (model prog w) _ (Builtin.List.listExtendWith (.ref s.heap.objs.size) (.ref t) (.ref s.heap.objs.size)) _ _ { s with heap := s.heap.push (seqObj "list" #[] 0) })⟩))
  unfold Builtin.List.listExtendWith
  have tt : (Value.type "tuple" == Value.type "tuple") = true := by rfl
  refine wpAny_bind (wpAny_typeOf (T := "tuple") ⟨o, eo', co⟩ ?_)
  rw [if_pos (by rw [tt]; simp)]
  refine wpAny_bind (listItems_at eo' dt (wpAny_bind (listItems_at (xs := #[]) (n := 0) he rfl ?_)))
  rw [if_neg (by simp)]
  refine wpAny_bind (listUpdate_at (xs := #[]) (n := 0) he rfl (wpAny_pure ?_) (Nat.zero_le _) (by
    show (#[] ++ us.toArray).size ≤ sizeLine + 1
    rw [Array.size_append, List.size_toArray]
    simp only [List.size_toArray, List.length_nil]
    omega))
  refine (?_ : wpAny (model prog w) A (do
      let o ← load s.heap.objs.size
      match o.data with
      | .seq xs _ => pure xs.toList
      | _ => unsupported "internal:collect") Q E { s with heap := got1 s.heap us })
  refine wpAny_bind (wpAny_load (get?_update_seq he _) (?_ : wpAny _ _ (pure ((#[] : Array Value) ++ us.toArray).toList) Q E _))
  rw [show ((#[] : Array Value) ++ us.toArray).toList = us by simp]
  exact wpAny_pure h
/-- sorted(t), t a tuple -/
theorem sortedT {t : Addr} {us : List Value} {lt : Value → Value → Bool} {Q : Value → Shared → Prop} (O : Swo lt) (ht : IsTup s.heap t us.toArray) (hz : us.length ≤ sizeLine)
    (hS : 2 ≤ us.length → ∀ (h1 : Heap) (a : Addr), h1.get? a = some (seqObj "list" us.toArray 0) → (∀ b o, s.heap.get? b = some o → b ≠ a ∧ h1.get? b = some o) → SortableO prog w A.in1.in1 { s with heap := h1 } a us lt)
    (h : ∀ out : List Value, Srtd lt out → Stb lt out us → Q (.ref (s.heap.objs.size + 1)) { s with heap := sortedAll s.heap us out.toArray }) : wpAny (model prog w) A (call (.builtin "sorted") [.ref t]) Q E s := by
  refine Calls.call_function_entry kind_sorted plain_sorted entry_sorted (args_sorted1 _) ?_
  unfold Builtin.«sorted»
  refine wpAny_bind (m := checkCount "sorted" 1 1 _) (wpAny_pure (wpAny_bind (collectT ht hz (wpAny_bind (wpAny_newList ?_ hz)))))
  have z1 : (got1 s.heap us).objs.size = s.heap.objs.size + 1 := by rw [Heap.size_update, size_push']
  have at1 : ((got1 s.heap us).push (seqObj "list" us.toArray 0)).get? (s.heap.objs.size + 1) = some (seqObj "list" us.toArray 0) := by
    rw [← z1]
    exact Heap.get?_push_size _ rfl
  have stay : ∀ b o, s.heap.get? b = some o → b ≠ s.heap.objs.size + 1 ∧ ((got1 s.heap us).push (seqObj "list" us.toArray 0)).get? b = some o := fun b o q => by
    have bl : b < s.heap.objs.size := Heap.lt_size q
    refine ⟨Nat.ne_of_lt (Nat.lt_succ_of_lt bl), Heap.get?_push_of_some _ ?_⟩
    refine (Heap.get?_update_ne _ _ _ _ (Nat.ne_of_lt bl)).trans (Heap.get?_push_of_some _ q)
  refine (?_ : wpAny _ _ _ _ _ { s with heap := (got1 s.heap us).push (seqObj "list" us.toArray 0) })
  rw [z1]
  exact wpAny_bind (wpAny_holding (wpAny_call_entry slot_list_sort ⟨_, at1, rfl⟩ entry_list_sort
    (list_sort_ord O at1 hz (fun h2 => hS h2 _ _ at1 stay) fun out o1 o2 => ⟨_, rfl, wpAny_pure ⟨_, rfl, h out o1 o2⟩⟩) (args_list_sort _)))
end
end XY
namespace XY
open PySem PySem.Spec PyProof.Rows L2 RE
/-- sorted(xs), xs a list or tuple of tuples of ints and texts, all of one shape -/
def rSortK (K : PySem.W.Frag) : List V → Hp → VK → Prop := fun vs H Q => ∃ (a : Addr) (xs : List V) (ks : List (List Key)) (b : Bool) (sh : List Bool), vs = [V.ref a] ∧ (SqL K H a xs ∨ SqT K H a xs) ∧ xs.length = ks.length ∧ (∀ k ∈ ks, shapeK k = b :: sh) ∧
  (∀ x k, (x, k) ∈ xs.zip ks → ∃ t, x = V.ref t ∧ SqT K H t (k.map kV)) ∧
  ∀ (ys : List (V × List Key)) p, ys.Perm (xs.zip ks) → ys.Pairwise (fun x y => ltL y.2 x.2 = false) → H p = none → Q (.ref p) (upd H p (.lst (ys.map (·.1))))
section
variable {X : Cx}
theorem cr_sortK (K : PySem.W.Frag) (hK : X.K = K := by rfl) : CallR X (.builtin "sorted") (rSortK K) := by
  subst hK
  intro pins s σ H vs us Q I r h
  obtain ⟨a, xs, ks, b, sh, rfl, hs, hlen, hsh, hx, q⟩ := h
  rcases hs with hs | hs
  · exact cr_sortTK pins s σ H _ us Q I r ⟨a, xs, ks, b, sh, rfl, hs, hlen, hsh, hx, q⟩
  obtain ⟨its, rv, hl, hz⟩ := I.tuple hs
  obtain ⟨u, rfl, ru⟩ := vals1 r
  obtain rfl : u = Value.ref a := ru
  have one : ∀ x k u, (x, k) ∈ xs.zip ks → RelV x u → (∃ a, u = Value.ref a) ∧ x = backV u ∧ IsTK s.heap u k := fun x k u m r1 => by
    obtain ⟨t, ex, ht⟩ := hx x k m
    subst ex
    obtain rfl : u = Value.ref t := r1
    obtain ⟨its2, r2, ⟨⟨cls, dd, data, sl⟩, ho, hc, n, hd⟩, _⟩ := I.tuple ht
    simp only at hc hd
    subst hc hd
    exact ⟨⟨t, rfl⟩, rfl, t, _, its2.toArray, n, rfl, ho, rfl, rfl, by simpa using r2⟩
  have each : ∀ v ∈ its, (∃ a, v = Value.ref a) ∧ IsTK s.heap v (keyOf s.heap v) ∧ shapeK (keyOf s.heap v) = b :: sh := fun v hv => by
    obtain ⟨i, hi⟩ := List.getElem?_of_mem hv
    obtain ⟨x, hxi, rx⟩ := pget_back rv hi
    have hil := (List.getElem?_eq_some_iff.mp hxi).1
    have hk : ks[i]? = some ks[i] := List.getElem?_eq_getElem (by omega)
    obtain ⟨z1, z2, z3⟩ := one x _ v (List.mem_of_getElem? (i := i) (by rw [List.getElem?_zip_eq_some]; exact ⟨hxi, hk⟩)) rx
    rw [keyOf_eq z3]
    exact ⟨z1, z3, hsh _ (List.mem_of_getElem? hk)⟩
  refine sortedT (swo_L (keyOf s.heap)) hl (by rw [← rv.length]; exact hz) (fun h2 h₁ c ha kk => ?_) fun out h1 h2 => ?_
  · exact tk_sortable (s := { s with heap := h₁ }) (by omega) (fun v hv => ⟨(each v hv).2.1.keeps fun d o e _ => (kk d o e).2, (each v hv).2.2⟩) fun o e => by
      cases (show some o = some (PyProof.Rows.seqObj "list" its.toArray 0) from e.symm.trans ha)
      exact fun z => absurd (Value.type.inj z) (by decide)
  · have h3 : ∀ u ∈ out, ∃ a, u = Value.ref a := fun u hu => (each u (h2.perm.mem_iff.mp hu)).1
    have pm : (out.map fun u => (backV u, keyOf s.heap u)).Perm (xs.zip ks) := by
      rw [zip_refs (f := keyOf s.heap) rv hlen fun x k u m r1 _ => let ⟨z1, z2, z3⟩ := one x k u m r1; ⟨z1, z2, keyOf_eq z3⟩]
      exact h2.perm.map _
    obtain ⟨n, hn⟩ := PyProof.Rows.sortedAll_at s.heap its out.toArray
    have qq := q _ (s.heap.objs.size + 1) pm (List.pairwise_map.mpr h1) (I.hok.fresh (Nat.le_succ _))
    rw [List.map_map] at qq
    have hle : (out.map backV).length ≤ sizeLine := by
      have := pm.length_eq
      rw [List.length_map, List.length_zip] at this
      rw [List.length_map]
      omega
    exact ⟨.ref (s.heap.objs.size + 1), upd H (s.heap.objs.size + 1) (.lst (out.map backV)), I.laid (t' := s.toks) (fun d o e => PyProof.Rows.sortedAll_old e) (Nat.le_succ _) ⟨hle, out, n, vals_back h3, hn⟩, rfl, qq⟩
end
end XY
namespace DL
open PySem PySem.Spec PyProof.Rows L2 LamX RZ RD RE TL XE XA XB XC XD XK
section
variable {K : PySem.W.Frag} {B : Bx} {H : Hp} {Γ : Gam} {tr : TA} {P : D → Prop}
/-- sorted of a list or tuple of made tuples of ints and texts -/
theorem ev_sortK (h : EvA K B tr Γ fun ds => ∃ kss : List (List Key), (ds = [.lst (kss.map D.tph)] ∨ ds = [.tup (kss.map D.tph)]) ∧ (∃ b sh, ∀ k, k ∈ kss → shapeK k = b :: sh) ∧
    ∀ out : List (List Key), out.Perm kss → out.Pairwise (fun x y => ltL y x = false) → P (.lst (out.map D.tph))) : Ev K B (tCB (XY.rSortK K) tr) Γ P := fun M σ H Q g x q =>
  h M σ H _ g x fun vs H1 ds r ⟨kss, e, ⟨b, sh, hsh⟩, p⟩ dn => by
    have g1 := g.r r
    have go : ∀ (a : Addr) (xs : List V), (SqL K H1 a xs ∨ SqT K H1 a xs) → DenAll K (hid M H1) (kss.map D.tph) xs → XY.rSortK K [V.ref a] H1 Q := fun a xs hs hd => by
      have hl := hd.length
      rw [List.length_map] at hl
      refine ⟨a, xs, kss, b, sh, rfl, hs, hl.symm, hsh, fun y k m => den_tph (dens_zipH hd y k m), fun ys p' pm pw hp => ?_⟩
      have r2 := g1.new (o := .lst (ys.map (·.1))) hp
      have pk : (ys.map (·.2)).Perm kss := by
        have := pm.map (·.2)
        rwa [List.map_snd_zip (by omega)] at this
      exact q _ _ _ (r.trans r2) (p _ pk (List.pairwise_map.mpr pw)) (.lst (hid_of (g1.fresh hp) upd_same) (g1.dens r2 (dens_ofH fun y k m => dens_zipH hd y k (pm.mem_iff.mp m))))
    rcases e with e | e <;> subst e
    · cases dn with
      | cons d1 dn =>
        cases dn
        cases d1 with
        | lst ha hd => exact go _ _ (.inl (SqL.of (hid_get ha).2)) hd
    · cases dn with
      | cons d1 dn =>
        cases dn
        cases d1 with
        | tup ha hd => exact go _ _ (.inr (SqT.sub hid_sub ha)) hd
end
end DL

set_option maxHeartbeats 4000000
/-! a list of a dict's keys, which are tuples -/
namespace DL
open PySem PySem.Spec PyProof.Rows L2 LamX RZ RD RE TL XE XA XB XC XD XK
section
variable {K : PySem.W.Frag} {B : Bx} {Γ : Gam} {tr : TA} {P : D → Prop}
theorem keys_dens {M : List Addr} {H : Hp} (g : Good K B M H) : ∀ {ks : List (List Key)} {vs : List V} {bs : List Addr}, IsKeys H (ks.zip vs) bs → ks.length = vs.length → DenAll K (hid M H) (ks.map D.tph) (bs.map V.ref)
  | [], _, _, h, _ => by cases h; exact .nil
  | _ :: _, [], _, _, l => by cases l
  | k :: ks, v :: vs, _, h, l => by
    cases h with
    | cons h1 h2 => exact .cons (.tph (hid_of (fun m => (g.there _ m).2.2 _ h1) h1)) (keys_dens g h2 (by simpa using l))
/-- list(d), the keys tuples -/
theorem ev_listT (h : EvA K B tr Γ fun es => ∃ fz ks ds, es = [.dT fz ks ds] ∧ P (.lst (ks.map D.tph))) :
    Ev K B (tCB (fun xs H Q => ∃ d kvs, xs = [V.ref d] ∧ Rd H d (.dT kvs) ∧ ∀ p bs, H p = none → IsKeys H kvs bs → Q (.ref p) (upd H p (.lst (bs.map V.ref)))) tr) Γ P := fun M σ H Q g x q =>
  h M σ H _ g x fun vs H1 es r ⟨fz, ks, ds, e, p⟩ dn => by
    subst e
    have g1 := g.r r
    cases dn with
    | cons d1 dn =>
      cases dn
      obtain ⟨a, vs, e, ha, ln, dv⟩ := d1.rdT
      subst e
      refine ⟨a, ks.zip vs, rfl, rd_hid ha, fun l bs hl hk => ?_⟩
      have r2 := g1.new (o := .lst (bs.map V.ref)) hl
      exact q _ _ _ (r.trans r2) p (.lst (hid_of (g1.fresh hl) upd_same) (g1.dens r2 (keys_dens g1 hk ln)))
end
end DL
namespace XZ
open PySem PySem.Spec PyProof.Rows L2
theorem op_catAK {X : Cx} (K : PySem.W.Frag) (hK : X.K = K := by rfl) : OpR X (binaryOp .Add) (rCatA K) := by
  subst hK; exact op_catA
theorem sl_tupAK {X : Cx} (K : PySem.W.Frag) (hK : X.K = K := by rfl) : SlR X (rSlA K) := by
  subst hK; exact sl_tupA
end XZ
namespace DL
open PySem PySem.Spec PyProof.Rows L2 LamX RZ RD RE TL XE XA XB XC XD XK
section
variable {K : PySem.W.Frag} {B : Bx} {Γ : Gam} {tr : TA} {P : D → Prop}
/-- list(t), t a tuple -/
theorem ev_listOfT (h : EvA K B tr Γ fun ds => ∃ es, ds = [.tup es] ∧ P (.lst es)) : Ev K B (tCB (fun xs H Q => ∃ p ys, xs = [.ref p] ∧ (SqL K H p ys ∨ SqT K H p ys) ∧ ∀ l, H l = none → Q (.ref l) (upd H l (.lst ys))) tr) Γ P := fun M σ H Q g x q =>
  h M σ H _ g x fun vs H1 ds r ⟨es, e, p⟩ dn => by
    subst e
    have g1 := g.r r
    cases dn with
    | cons d1 dn =>
      cases dn
      cases d1 with
      | @tup _ zs _ ha hd =>
        refine ⟨_, _, rfl, .inr (SqT.sub hid_sub ha), fun l hl => ?_⟩
        have r2 := g1.new (o := .lst zs) hl
        exact q _ _ _ (r.trans r2) p (.lst (hid_of (g1.fresh hl) upd_same) (g1.dens r2 hd))
end
end DL
namespace DL
open PySem PySem.Spec PyProof.Rows L2 LamX RZ RD RE TL XE XA XB XC XD XK
section
variable {K : PySem.W.Frag} {B : Bx} {Γ : Gam}
/-- {k: v, ..}, the keys all unlike, new -/
theorem en_disp {trs : List (TE × TE)} {P : List Key → List D → Prop} (h : EvP K B trs Γ fun ks ds => ks.Nodup ∧ ks.length ≤ 15 ∧ P ks ds) : EvN K B (tDisp trs) Γ P := fun M σ H Q g x q => fun a ha => by
  refine h (a :: M) σ _ _ (g.own ha) (x.sub (hid_own ha)) fun ks vs ds H' r ⟨nd, hz, p⟩ ln dn => ?_
  have e1 := r.2 a _ upd_same (g.fresh_b ha)
  refine ⟨e1, ks.zip vs, rfl, by rw [List.length_zip]; omega, ?_⟩
  rw [show mergeK [] (ks.zip vs) = ks.zip vs from by
    rw [mergeK_new _ _ (by rw [List.map_fst_zip (by omega)]; exact nd) (fun _ _ r hr => by cases hr), List.nil_append]]
  refine q a _ ks vs ds ha (((g.new ha).trans r).putNew ha (g.fresh_b ha) (g.fresh_l ha) (.of e1 fun φ z => by cases z)) upd_same ln nd (DenAll.sub (fun b o e => ?_) _ _ dn) p
  rw [hid_put List.mem_cons_self]
  exact e
end
end DL

set_option maxHeartbeats 4000000
/-! a set of one tuple of ints and texts -/
namespace YA
open PySem PySem.Spec PyProof.Rows L2
/-- a table without members -/
def nil7 (led : Bool) : SetTable := .fresh 0 0 led
theorem nil_slot (led : Bool) (j : Nat) : (nil7 led).slot j = .empty := rfl
theorem nil_probe (led : Bool) (f : Nat → Int) (h : Int) (p : SetTable.Probe) : (nil7 led).probe f h p = some (.empty p.j p.dummy) := by
  unfold SetTable.probe
  rw [show 10 * SetTable.turns (nil7 led).mask = 219 + 1 from rfl]
  unfold SetTable.probe.go
  rw [nil_slot]
section
variable {prog : Program} {w : World} {A : Around} {E : Value → Shared → Prop} {s : Shared} {Z x : Addr} {k : List Key} {led : Bool}
abbrev setOb (es : Array (Int × Value)) (ep : Nat) (t : SetTable) : Obj := { cls := .type "set", dict := none, data := .set es ep t }
theorem key_hashBy (n : Nat) {k : Key} {v : Value} (h : (mixKind prog w).is k v = true) : ∃ b, hashByValue n v = pure b := by
  cases v with
  | int i t => exact ⟨_, by cases n <;> rfl⟩
  | str i t => exact ⟨_, by cases n <;> rfl⟩
  | ref a => exfalso; cases k <;> cases h
  | _ => exact ⟨_, by cases n <;> rfl⟩
theorem items_hashBy {k : List Key} {vs : List Value} (h : ItemsAre (mixKind prog w) k vs) : ∀ v ∈ vs, ∀ n, ∃ b, hashByValue n v = pure b := by
  induction h with
  | nil => intro v hv; cases hv
  | cons h1 _ ih =>
    intro v hv n
    rcases List.mem_cons.mp hv with e | hv
    · rw [e]; exact key_hashBy n h1
    · exact ih v hv n
theorem tup_hashBy {Q : Bool → Shared → Prop} (hk : IsTupleKey (mixKind prog w) s.heap k x) (h : ∀ b, Q b s) : wpAny (model prog w) A (hashByValue 8 (.ref x)) Q E s := by
  have hT := hk.typeIs
  obtain ⟨o, items, n, ho, _, hd, hi⟩ := hk
  unfold hashByValue
  refine wpAny_bind (wpAny_specialOf hT F.slot_tuple_hash.lookup (?_ : wpAny _ _ (seqItems? (.ref x) >>= _) _ _ s))
  refine wpAny_bind (wpAny_seqItems ho hd (wpAny_bind (?_ : wpAny _ _ (forIn items _ _) _ _ s)))
  rw [← Array.forIn_toList]
  refine wpAny_forIn_list _ (fun rest r s' => s' = s ∧ ∀ v ∈ rest, ∀ n, ∃ b, hashByValue n v = pure b) _ ?_ ?_ _ _ ⟨rfl, items_hashBy hi⟩
  · rintro v rest r s' ⟨rfl, all⟩
    obtain ⟨b, e⟩ := all v List.mem_cons_self 7
    rw [e]
    refine wpAny_bind (wpAny_pure ?_)
    cases b with
    | true => exact wpAny_pure ⟨rfl, fun u hu => all u (List.mem_cons_of_mem _ hu)⟩
    | false => exact wpAny_pure (wpAny_pure (h false))
  · rintro ⟨r1, r2⟩ s' ⟨rfl, _⟩
    cases r1 with
    | none => exact wpAny_pure (h true)
    | some b => exact wpAny_pure (h b)
theorem nil_gw (led : Bool) : ¬ (nil7 led).gaveWay = true := by
  show ¬ ((7 % 2 == 0) = true)
  decide
theorem nil_search {Q : SetFound → Shared → Prop} (ho : s.heap.get? Z = some (setOb #[] 0 (nil7 led))) (h : Int) (q : ∀ j, Q (.free j false) s) : wpAny (model prog w) A (setSearch Z (.ref x) h true) Q E s := by
  unfold setSearch
  rw [show (100000 : Nat) = 99999 + 1 from rfl, setSearchFrom_succ]
  refine wpAny_bind (wpAny_setState_of ho rfl rfl ?_)
  dsimp only
  refine wp_if_neg (nil_gw led) ?_
  try refine wpAny_bind (wpAny_pure ?_)
  first
    | (rw [nil_probe]; exact wpAny_pure (q _))
    | exact wpAny_pure (q _)
/-- the one tuple is put in -/
theorem add_one {Q : Bool → Shared → Prop} (ho : s.heap.get? Z = some (setOb #[] 0 (nil7 led))) (hk : IsTupleKey (mixKind prog w) s.heap k x) (hu : A.units < cLine)
    (q : ∀ h2 tk es t, s.toks ≤ tk → es.size = 1 → t.fits es.size = true → Heap.SameBut Z s.heap h2 → h2.get? Z = some (setOb es 1 t) → Q true { s with heap := h2, toks := tk }) : wpAny (model prog w) A (setAdd Z (.ref x)) Q E s := by
  unfold setAdd
  refine wpAny_holding (wpAny_bind (wpAny_pyHash_tuple hu hk ?_))
  generalize tupleKeyHash (mixKind prog w) k = hh
  generalize hs1 : ({ s with toks := s.toks + (k.length + 1) } : Shared) = s1
  have ho1 : s1.heap.get? Z = some (setOb #[] 0 (nil7 led)) := by rw [← hs1]; exact ho
  have hk1 : IsTupleKey (mixKind prog w) s1.heap k x := by rw [← hs1]; exact hk
  unfold setAddHashed
  rw [show (100000 : Nat) = 99999 + 1 from rfl, setAddHashedIn_succ]
  refine wpAny_holding (wpAny_bind (wpAny_setState_of ho1 rfl rfl ?_))
  dsimp only
  refine wp_if_neg (by simp [byScan, Value.scannable]) ?_
  try refine wpAny_bind (wpAny_pure ?_)
  refine wpAny_bind (nil_search ho1 hh fun j => ?_)
  dsimp only
  refine wpAny_bind (wpAny_setState_of ho1 rfl rfl ?_)
  dsimp only
  have e1 : ((nil7 led).put j) = ({ nil7 led with place := #[j] }, 0) := rfl
  rw [e1]
  dsimp only
  refine wp_if_pos rfl (wpAny_bind (tup_hashBy hk1 fun b => ?_))
  generalize ht : (if b = true then _ else _ : SetTable) = t1
  have f1 : t1.fits 1 = true ∧ t1.tooFull = false := by
    rw [← ht]
    cases b <;> exact ⟨rfl, rfl⟩
  have ei : SetTable.insertAt #[] 0 (hh, Value.ref x) = #[(hh, Value.ref x)] := rfl
  rw [ei]
  refine wpAny_bind (wpAny_storeSet_of ho1 rfl ?_ (Nat.le_of_ble_eq_true rfl))
  refine wp_if_neg (by rw [f1.2]; decide) (wpAny_pure ?_)
  have at2 : (s1.heap.update Z (Obj.putSet #[(hh, Value.ref x)] t1)).get? Z = some (setOb #[(hh, Value.ref x)] 1 t1) := store_at ho1 rfl
  have z := q (s1.heap.update Z (Obj.putSet #[(hh, Value.ref x)] t1)) s1.toks #[(hh, Value.ref x)] t1 (by rw [← hs1]; exact Nat.le_add_right _ _) rfl f1.1 (by rw [← hs1]; exact Heap.SameBut.update ..) at2
  rw [← hs1] at z ⊢
  exact z
theorem loop1 {R : Result → Shared → Prop} {I : Addr} {fp wr : List Addr} {G : Array GenState → Array GenState → Prop} {P : Nat → Value → Prop} {St : Nat → Shared → Prop} (W : WalksS prog w A.in1 I fp wr G 1 P St) (nf : Z ∉ fp) (nx : x ∉ wr) (at_ : ∀ v, P 0 v → v = .ref x)
    (hu : A.in1.units < cLine) (st0 : St 0 s) (ho : s.heap.get? Z = some (setOb #[] 0 (nil7 led))) (hk : IsTupleKey (mixKind prog w) s.heap k x)
    (fin : ∀ s2, Moved (Z :: wr) G s s2 → (∃ es t, es.size = 1 ∧ t.fits es.size = true ∧ s2.heap.get? Z = some (setOb es 1 t)) → R (.ok (.ret .none)) s2) :
    codeAny (model prog w) A (.builtin "set.update.loop" ⟨[.ref Z, .ref I], []⟩) R s := by
  have nw : Z ∉ wr := fun m => nf (W.sub _ m)
  have sub2 : ∀ b ∈ wr, b ∈ Z :: wr := fun b m => List.mem_cons_of_mem _ m
  refine codeAny_builtin PyProof.Rows.F.entry_set_update_loop (by
    rw [Around.under_plainId PyProof.Rows.F.plain_set_update_loop _]
    show wpAny _ A.in1 (pyNext (.ref I) >>= _) _ _ s
    refine wpAny_bind (W.item 0 s _ _ (Nat.succ_pos _) st0 fun v s2 pv st1 mv => ?_)
    obtain rfl := at_ v pv
    have ho2 := mv.heap Z _ nw ho
    have hk2 : IsTupleKey (mixKind prog w) s2.heap k x := by
      obtain ⟨o, items, n, a1, a2, a3, a4⟩ := hk
      exact ⟨o, items, n, mv.heap x _ nx a1, a2, a3, a4⟩
    show wpAny _ A.in1 (holding [Value.ref x] (setAdd Z (.ref x)) >>= _) _ _ s2
    refine wpAny_bind (wpAny_holding (add_one ho2 hk2 hu fun h3 tk es t lt e1 e2 same e3 => ?_))
    refine wpAny_pure ⟨plainId_quiet PyProof.Rows.F.plain_set_update_loop _, codeAny_builtin PyProof.Rows.F.entry_set_update_loop (by
      rw [Around.under_plainId PyProof.Rows.F.plain_set_update_loop _]
      show wpAny _ A.in1 (pyNext (.ref I) >>= _) _ _ _
      refine wpAny_bind (W.done _ _ _ (W.frame _ s2 _ _ st1 lt fun b m o e => (by
        rw [same.2 b fun z => nf (by rw [← z]; exact m)]; exact e)) fun s4 mv4 => ?_)
      show wpAny _ A.in1 (ret Value.none) _ _ s4
      refine wpAny_pure (fin s4 (Moved.trans W.gtrans ((mv.mono sub2).then_heap lt fun b o m e => (by
          rw [same.2 b fun z => m (by rw [z]; exact List.mem_cons_self)]; exact e)) (mv4.mono sub2)) ⟨es, t, e1, e2, mv4.heap Z _ nw e3⟩))⟩)
set_option maxHeartbeats 3200000 in
/-- set([t]) -/
theorem set_one {u : Addr} {Q : Value → Shared → Prop} (calm : A.handled = none) (lu : s.heap.IsList u #[.ref x]) (hk : IsTupleKey (mixKind prog w) s.heap k x) (hu : A.units + 64 < cLine)
    (fin : ∀ (h2 : Heap) (tk : Nat), (∃ es t, es.size = 1 ∧ t.fits es.size = true ∧ h2.get? s.heap.objs.size = some (setOb es 1 t)) → (∀ b o, b < s.heap.objs.size → s.heap.get? b = some o → h2.get? b = some o) → Q (.ref s.heap.objs.size) { s with heap := h2, toks := tk }) :
    wpAny (model prog w) A (call (.type "set") [.ref u]) Q E s := by
  obtain ⟨cs, tls, mros⟩ := PySem.F.called_set.mro
  have fm := PySem.F.called_set.made
  have fs := PySem.F.called_set.sub
  refine wpAny_call (codeAny_of_tree (by
    show wpAny _ _ (callAny (.type "set") _) _ _ _
    refine wpAny_pure ⟨Code.quiet_builtin _ (by decide +kernel), codeAny_builtin PySem.F.entry_type_call (by
      rw [Around.under_plain (weight_type_call_type "set" [.ref u] []) rfl]
      have ft := PySem.F.called_set.notType
      have fc := PySem.F.called_set.canCreate
      have fk := PySem.F.typeCall_set_1 (.ref u)
      repeat (any_goals (first | assumption | wp_step))
      refine codeAny_mono (code_set_new_1 (.ref u) (E := E) (Q₁ := fun ob sN => ∃ led : Bool, ob = .ref s.heap.objs.size ∧ sN = { s with heap := s.heap.push (setOb #[] 0 (nil7 led)) }) fun led => ⟨led, rfl, rfl⟩) fun rN sN gN => ?_
      rcases rN with er | (_ | _ | _ | ob) <;> first | exact gN | exact gN.elim | skip
      obtain ⟨led, rfl, rfl⟩ := gN
      have at0 : (s.heap.push (setOb #[] 0 (nil7 led))).get? s.heap.objs.size = some (setOb #[] 0 (nil7 led)) := Heap.get?_push_size _ rfl
      have ty0 : Shared.TypeIs { s with heap := s.heap.push (setOb #[] 0 (nil7 led)) } (.ref s.heap.objs.size) "set" := ⟨_, at0, rfl⟩
      have fl := PySem.F.called_set.init.lookup
      have fb := PySem.F.called_set.init.bind (.ref s.heap.objs.size)
      repeat (any_goals (first | assumption | wp_step))
      refine codeAny_mono (codeAny_call_builtin (R := wants (fun r s2 => r = .none ∧ ∃ h2 tk, s2 = { s with heap := h2, toks := tk } ∧ (∃ es t, es.size = 1 ∧ t.fits es.size = true ∧ h2.get? s.heap.objs.size = some (setOb es 1 t)) ∧
        (∀ b o, b < s.heap.objs.size → s.heap.get? b = some o → h2.get? b = some o)) E) PySem.F.called_set.init.plain PySem.F.entry_set_init (check_set_init_1 ty0 ?_)) fun r2 s2 g2 => ?_
      · obtain ⟨⟨c1, d1, t1, l1⟩, au, ec, nu, ed⟩ := lu
        simp only at ec ed
        subst ec ed
        have au2 : (s.heap.push (setOb #[] 0 (nil7 led))).get? u = some { cls := .type "list", dict := d1, data := .seq #[.ref x] nu, slots := l1 } := Heap.get?_push_of_some _ au
        have f1 := PySem.F.sub_list_set
        have f2 := PySem.F.sub_list_frozenset
        have f3 : (Value.type "list" == Value.type "dict") = false := by decide
        have lu2 : (s.heap.push (setOb #[] 0 (nil7 led))).IsList u #[.ref x] := ⟨_, au2, rfl, nu, rfl⟩
        unfold Builtin.«set.__init__» noKeywords Builtin.Frozenset.updateFrom
        generalize ePI : pyIter = PI
        wp_walk
        subst ePI
        refine wpAny_pyIter_list lu2 (wpAny_bind (wpAny_runValue ?_))
        have ult : u < s.heap.objs.size := Heap.lt_size au
        have nI : u ≠ (s.heap.push (setOb #[] 0 (nil7 led))).objs.size := by rw [Heap.size_push]; exact Nat.ne_of_lt (Nat.lt_succ_of_lt ult)
        have nS : s.heap.objs.size ∉ [(s.heap.push (setOb #[] 0 (nil7 led))).objs.size, u] := fun m => by
          rw [Heap.size_push] at m
          simp only [List.mem_cons, List.not_mem_nil, or_false] at m
          exact m.elim (Nat.ne_of_lt (Nat.lt_succ_self _)) (Nat.ne_of_gt ult)
        have xlt : x < s.heap.objs.size := by
          obtain ⟨o, _, _, a1, _⟩ := hk
          exact Heap.lt_size a1
        have a0 : ((s.heap.push (setOb #[] 0 (nil7 led))).push { cls := .type "list_iterator", data := .fields #[.ref u, .int 0 0] }).get? s.heap.objs.size = some (setOb #[] 0 (nil7 led)) := Heap.get?_push_of_some _ at0
        have hk0 : IsTupleKey (mixKind prog w) ((s.heap.push (setOb #[] 0 (nil7 led))).push { cls := .type "list_iterator", data := .fields #[.ref u, .int 0 0] }) k x := by
          obtain ⟨o, items, n, a1, a2, a3, a4⟩ := hk
          exact ⟨o, items, n, Heap.get?_push_of_some _ (Heap.get?_push_of_some _ a1), a2, a3, a4⟩
        refine loop1 ((Walks.list (show A.in1.in1.in1.handled = none by simp [calm]) _ u nI #[.ref x]).toS) nS ?_ (fun v hv => (Option.some.inj hv).symm) ?_ ⟨⟨_, Heap.get?_push_size _ rfl, rfl, rfl⟩, (lu2.push _)⟩ a0 hk0 fun s3 mv z3 => ?_
        · intro m
          rw [List.mem_singleton, Heap.size_push] at m
          exact Nat.ne_of_lt (Nat.lt_succ_of_lt xlt) m
        · simp only [units_in1]; omega
        · obtain ⟨h3, g3, d3, t3, o3⟩ := s3
          obtain rfl : g3 = s.gens := mv.gens
          obtain rfl : d3 = s.drawn := mv.drawn
          obtain rfl : o3 = s.os := mv.os
          show wpAny _ _ _ _ _ _
          refine wpAny_pure (by
            show wpAny _ _ (ret Value.none) _ _ _
            refine wpAny_pure ⟨rfl, h3, t3, rfl, z3, fun b o lt e => mv.heap b o (fun m => ?_) (Heap.get?_push_of_some _ (Heap.get?_push_of_some _ e))⟩
            rw [Heap.size_push] at m
            simp only [List.mem_cons, List.mem_singleton, List.not_mem_nil, or_false] at m
            exact m.elim (Nat.ne_of_lt lt) (Nat.ne_of_lt (Nat.lt_succ_of_lt lt)))
      · rcases r2 with er | (_ | _ | _ | v2) <;> first | exact g2 | exact g2.elim | skip
        obtain ⟨rfl, h2, tk, rfl, z2, kp⟩ := g2
        repeat (any_goals (first | assumption | wp_step))
        exact fin _ _ z2 kp)⟩))
end
end YA

set_option maxHeartbeats 4000000
/-! len(set(e)) of at most one tuple; sets of texts by comprehension -/
namespace YB
open PySem PySem.Spec PyProof.Rows L2
/-- len(set(e)), e a list of no or one tuple of ints and texts -/
def tLenSetK (K : PySem.W.Frag) (ta : TE) : TE := fun σ H Q => ta σ H fun x H1 => ∃ l, x = .ref l ∧ ((SqL K H1 l [] ∧ Q (.int 0) H1) ∨ ∃ (t : Addr) (k : List Key), SqL K H1 l [.ref t] ∧ SqT K H1 t (k.map kV) ∧ Q (.int 1) H1)
theorem pe_lenSetK {X : Cx} {a : Expr} {ta : TE} {p p2 q pos : Pos} (hu : X.A.units + 64 < cLine) (hc : X.calm = true) (hg : Gl X "len") (hm : X.mg "len" = none) (hg2 : Gl X "set") (hm2 : X.mg "set" = none) (ha : PE X a ta)
    (na : starEach [a] X.env = (false, eval a X.env) :: starEach [] X.env := by rfl) : PE X (.Call (.Name "len" p) [.Call (.Name "set" p2) [a] [] q] [] pos) (tLenSetK X.K ta) := by
  refine ⟨fun pins s σ H Q I h => Call_ (ld_blt I hg hm boot_len (PyProof.Rows.callWith_builtin1 (PyProof.Rows.args_cons (Call_ (ld_blt I hg2 hm2 boot_set (PyProof.Rows.callWith_type1 (PyProof.Rows.args_cons
    (thn (ha.run pins s σ H _ I h) fun v s1 ⟨x, H1, I1, r1, l, ex, hq⟩ => PyProof.Rows.args_nil ?_) na) na rfl))) rfl) rfl rfl))⟩
  subst ex
  obtain rfl : v = Value.ref l := r1
  have done : ∀ (n : Nat) (h2 : Heap) (tk : Nat) (oz : Obj) (es : Array (Int × Value)) (ep : Nat) (tb : SetTable), Q (.int (n : Nat)) H1 → h2.get? s1.heap.objs.size = some oz → oz.ExactSet → oz.data = .set es ep tb → tb.fits es.size = true → es.size = n → n ≤ 1 → (∀ b o, b < s1.heap.objs.size → s1.heap.get? b = some o → h2.get? b = some o) →
      wpAny (model X.prog X.w) X.A (spliced (backTo pos (starEach [] X.env))) (fun vs s2 => wpAny (model X.prog X.w) X.A (call (.builtin "len") (Value.ref s1.heap.objs.size :: vs)) (EP X pins σ Q) X.xe s2) X.xe { s1 with heap := h2, toks := tk } := fun n h2 tk oz es ep tb qn hz1 hex hd hf hn n1 kp => by
    have I2 : Inv X pins σ H1 { s1 with heap := h2, toks := tk } := I1.kept fun b o e => kp b o (Heap.lt_size e) e
    exact PyProof.Rows.args_nil (call_len_set hz1 hex hd hf (by rw [hn] <;> omega) ⟨.int n, H1, I2.tok _, ⟨_, by rw [hn]⟩, qn⟩)
  rcases hq with ⟨hq, q0⟩ | ⟨t, k, hq, ht, q1⟩
  · obtain ⟨its, r, pl, _⟩ := I1.list hq
    cases r
    exact XT.set_list (xs := []) (I1.ok.hd hc) pl.isList .nil (by decide) fun h2 tk z kp => by
      obtain ⟨oz, es, ep, tb, hz1, hex, hd, _, _, _, hf, hn⟩ := z
      exact done 0 h2 tk oz es ep tb q0 hz1 hex hd hf hn (Nat.zero_le _) kp
  · obtain ⟨its, r, pl, _⟩ := I1.list hq
    obtain ⟨u, rfl, ru⟩ := vals1 r
    cases ru
    obtain ⟨its2, r2, ⟨o, ho, hcl, n, hd2⟩, _⟩ := I1.tuple ht
    refine YA.set_one (x := t) (k := k) (I1.ok.hd hc) pl.isList ⟨o, its2.toArray, n, ho, hcl, hd2, by simpa using items_are r2⟩ hu fun h2 tk z kp => ?_
    obtain ⟨es, tb, e1, e2, e3⟩ := z
    exact done 1 h2 tk _ es 1 tb q1 e3 ⟨rfl, rfl, rfl⟩ rfl e2 e1 (Nat.le_refl _) kp
/-- the set of these texts -/
def SetSO (P : Program) (w : World) (a : Addr) (zs : List Str) : HO := .ext fun h => h.SetOf (PySem.strKind P w) a (fun k => zs.any (· == k)) zs.length
/-- one more -/
def addS (zs : List Str) (z : Str) : List Str := if zs.any (· == z) then zs else zs ++ [z]
theorem setSO_new {P : Program} {w : World} {H : Hp} {h : Heap} {a : Addr} {zs : List Str} (R : h.SetOf (PySem.strKind P w) a (fun k => zs.any (· == k)) zs.length) : ObjOk P w H h a (SetSO P w a zs) := by
  have ⟨o, es, ep, t, ho, r⟩ := R
  exact ⟨R, ⟨o, ho⟩, fun h1 h2 p k => by
    obtain ⟨o, es, ep, t, ho, r⟩ := p
    exact ⟨o, es, ep, t, k o ho, r⟩⟩
section
variable {X : Cx}
theorem addS_ok {pins : List (Addr × Obj)} {σ : L2.St} {H : Hp} {s : Shared} {E : Value → Shared → Prop} {D : Addr} {zs : List Str} {y : Str} {tk : Tok} {Q : Value → Shared → Prop} (I : Inv X pins σ H s) (hD : H D = some (SetSO X.prog X.w D zs)) (room : zs.length + 1 < scanBound)
    (h : ∀ s', Inv X pins σ (upd H D (SetSO X.prog X.w D (addS zs y))) s' → Q .none s') : wpAny (model X.prog X.w) X.A (call (.builtin "set.add") [.ref D, .str y tk]) Q E s := by
  have R : s.heap.SetOf (PySem.strKind X.prog X.w) D (fun k => zs.any (· == k)) zs.length := (I.hok D _ hD).1
  refine call_set_add (strKind_is _ _ _ _) rfl R room fun h' sb new => ?_
  have new2 : h'.SetOf (PySem.strKind X.prog X.w) D (fun k => (addS zs y).any (· == k)) (addS zs y).length :=
    SetOf_congr new (fun k => by unfold addS; rw [XT.once_any]) (by unfold addS; rw [XT.once_size])
  have he : ∃ u, h'.get? D = some u := by
    have ⟨o, _, _, _, ho, _⟩ := new
    exact ⟨o, ho⟩
  exact h _ (I.write (e := D) (t' := s.toks + 1) (by rw [hD]; trivial) (.inl rfl) (fun b u hb hu => (sb.2 b hb).trans hu) he (setSO_new new2))
end
/-- len of such a set -/
def rLenS (P : Program) (w : World) : List V → Hp → VK → Prop := fun xs H Q => ∃ a zs, xs = [.ref a] ∧ H a = some (SetSO P w a zs) ∧ zs.length ≤ 1000 ∧ Q (.int (zs.length : Nat)) H
theorem call_lenS {X : Cx} {P : Program} {w : World} (hp : X.prog = P := by rfl) (hw : X.w = w := by rfl) : CallR X (.builtin "len") (rLenS P w) := by
  subst hp hw
  intro pins s σ H xs us Q I r h
  obtain ⟨a, zs, rfl, e, hn, q⟩ := h
  obtain ⟨u, rfl, rx⟩ := vals1 r
  cases rx
  obtain ⟨o, es, ep, tb, hz1, hex, hd, _, _, _, hf, hn2⟩ := (show s.heap.SetOf (PySem.strKind X.prog X.w) a (fun k => zs.any (· == k)) zs.length from (I.hok a _ e).1)
  exact call_len_set hz1 hex hd hf (by rw [hn2] <;> omega) ⟨.int zs.length, H, I.tok _, ⟨_, by rw [hn2]⟩, q⟩
end YB

set_option maxHeartbeats 4000000
/-! sets of texts by comprehension -/
namespace YB
open PySem PySem.Spec PyProof.Rows L2
abbrev setO (w : World) : Obj := { cls := .type "set", dict := none, data := .set #[] 0 (.fresh 0 0 (!w.params.followText "set-order")) }
section
variable {X : Cx}
/-- {e for target in iter if ..}, e a text: d the new set -/
def tScS (P : Program) (w : World) (wi : TI) (g : TG) (tt : TT) (te : TE) (vs : List Nat) : TE := fun σ H Q => wi σ H fun J H1 => ∀ d, H1 d = none → ∃ W : Nat → Nat → Hp → Prop, (∃ m, W 0 m (upd H1 d (SetSO P w d []))) ∧ ∀ i m H, W i m H →
  (J.stop i H ∧ Q (.ref d) H) ∨ (J.go i H ∧ ∃ Nx : Hp → Prop, (∀ H', Nx H' → ∃ m', m' < m ∧ W (i + 1) m' H') ∧ ∀ x H', J.yld i H x H' → g x (wipe σ vs) H' fun σ2 H2 => wipe σ2 vs = wipe σ vs ∧ tt σ2 H2 fun b H3 =>
    if b = true then te σ2 H3 fun y H4 => ∃ (z : Str) (zs : List Str), y = .str z ∧ H4 d = some (SetSO P w d zs) ∧ zs.length + 1 < scanBound ∧ Nx (upd H4 d (SetSO P w d (addS zs z))) else Nx H3)
theorem pe_scS {ex tg iter : Expr} {ifs : List Expr} {scope : Scope} {own : List (Str × Nat)} {pos : Pos} {wi : TI} {g : TG} {tt : TT} {te : TE} (hc : X.calm = true) (hN : X.N.Nodup) (hi : PI X tg iter wi) (ok : BlkOk X.N X.env.scope scope own)
    (hg : ∀ (s : Shared) (H : Hp) (C : Addr) (cl : List (Str × Addr)) (fp : List Addr), PG (X.blk s H scope (compEnvC scope cl C X.env) fp) tg g) (ht : ∀ (s : Shared) (H : Hp) (C : Addr) (cl : List (Str × Addr)) (fp : List Addr), PTs (X.blk s H scope (compEnvC scope cl C X.env) fp) ifs tt)
    (he : ∀ (s : Shared) (H : Hp) (C : Addr) (cl : List (Str × Addr)) (fp : List Addr), PE (X.blk s H scope (compEnvC scope cl C X.env) fp) ex te) (hs : ∀ x, foldedSetIterable iter X.env x = pure x := by intro _; rfl) :
    PE X (.SetComp ex [⟨tg, iter, ifs, 0⟩] scope pos) (tScS X.prog X.w wi g tt te (own.map (·.2))) := by
  refine ⟨fun pins s σ H Q I h => ?_⟩
  rw [PpSet.eval_SetComp]
  have frees : ∀ y ∈ scope.names, y.2 = .free → ∃ c, X.env.cells.lookup y.1 = some c := fun y hy e => (ok.free y hy e).elim (fun k => I.ok.has _ (.inl k)) fun k => I.ok.has _ (.inr k)
  refine wpAny_comprehension_free rfl hs (closure_ok frees) ok.kind (fun y hy e => by rw [ok.uniq y hy, e]) (thn (hi.run pins s σ H _ I h) fun xv s1 hx => thn hx fun itv s2 h2 => ?_)
  obtain ⟨it, fp, tn, J, H2, e, I2, T, st2, f2, q⟩ := h2
  subst e
  refine PpSet.newSet_ok (newEnv_comp ?_)
  obtain ⟨d, hd⟩ : ∃ d, s2.heap.objs.size = d := ⟨_, rfl⟩
  rw [hd]
  obtain ⟨W, ⟨m0, w0⟩, turn⟩ := q d (I2.hok.fresh (Nat.le_of_eq hd))
  -- the new dict is there
  generalize hs3 : ({ s2 with heap := s2.heap.push (setO X.w) } : Shared) = s3
  have h3 : s3.heap = s2.heap.push (setO X.w) := by rw [← hs3]
  have up3 : ∀ b o, s2.heap.get? b = some o → s3.heap.get? b = some o := fun b o e => by rw [h3]; exact Heap.get?_push_of_some _ e
  have I3 : Inv X pins σ (upd H2 d (SetSO X.prog X.w d [])) s3 := by
    rw [← hs3]
    refine I2.laid (t' := s2.toks) (fun b o e => Heap.get?_push_of_some _ e) (Nat.le_of_eq hd) ?_
    rw [← hd]
    exact setSO_new (SetOf_congr ((setObjOf_fresh (knd := PySem.strKind X.prog X.w) _).setOf (Heap.get?_push_size _ rfl) (by unfold scanBound; omega)) (fun _ => rfl) rfl)
  have f3 : ∀ b ∈ fp, FpOk X pins (upd H2 d (SetSO X.prog X.w d [])) b ∧ b < s3.heap.objs.size := fun b hb => by
    obtain ⟨o, e, _⟩ := T.obj _ _ st2 b hb
    have lt := Heap.lt_size e
    exact ⟨⟨by rw [upd_ne (by rw [← hd]; exact Nat.ne_of_lt lt)]; exact (f2 b hb).1, (f2 b hb).2⟩, by rw [h3, Heap.size_push]; exact Nat.lt_succ_of_lt lt⟩
  have I4 := block_start I3 ok hN f3
  let cl := cellsFrom (s3.heap.objs.size + 1) scope.names (cloFrom X.env.cells scope.names [])
  have bg := hg s3 (upd H2 d (SetSO X.prog X.w d [])) s3.heap.objs.size cl fp
  have bt := ht s3 (upd H2 d (SetSO X.prog X.w d [])) s3.heap.objs.size cl fp
  have bv := he s3 (upd H2 d (SetSO X.prog X.w d [])) s3.heap.objs.size cl fp
  have left : ∀ b ∈ fp, (upd H2 d (SetSO X.prog X.w d [])) b = none := fun b hb => (f3 b hb).1.1
  show codeAny _ _ (.compStart (.SetComp ex [⟨tg, iter, ifs, 0⟩] scope pos) 0 (.ref it) (.ref d) (compEnvC scope cl s3.heap.objs.size X.env)) _ { s3 with heap := pushCells (s3.heap.push { cls := .type "dict", data := .dict #[] }) scope.names }
  generalize hce : compEnvC scope cl s3.heap.objs.size X.env = ce at I4 bg bt bv ⊢
  have at_ : ce.locals = s3.heap.objs.size := by subst hce; rfl
  generalize hH3 : upd H2 d (SetSO X.prog X.w d []) = H3 at I3 I4 bg bt bv w0 left f3
  generalize hs4 : ({ s3 with heap := pushCells (s3.heap.push { cls := .type "dict", data := .dict #[] }) scope.names } : Shared) = s4 at I4 ⊢
  have st4 : tn 0 s4.heap := T.keep _ _ _ st2 fun b _ o e => by rw [← hs4]; exact pushCells_keeps _ _ _ _ (Heap.get?_push_of_some _ (up3 b o e))
  have kept : ∀ {σ' : L2.St} {H' : Hp} {s' : Shared}, Inv (X.blk s3 H3 scope ce fp) [] σ' H' s' → (∀ b ∈ fp, H' b = none) → ∀ b ∈ fp, FpOk (X.blk s3 H3 scope ce fp) [] H' b := fun {σ' H' s'} I' n b hb =>
    ⟨n b hb, (I'.ok.exf b hb).1, I'.ok.exfs b hb, .inl hb, fun x c e => (I'.ok.exf b hb).2 x c e, fun p hp => absurd (show p ∈ ([] : List (Addr × Obj)) ++ [] from hp) (by simp)⟩
  refine PpSet.codeAny_compStart_set ?_ (T.self X.A 0 _ _ _ st4 ?_)
  all_goals
    refine PpSet.compLoopS_any (fun n s' => ∃ i H', Inv (X.blk s3 H3 scope ce fp) [] (wipe σ (own.map (·.2))) H' s' ∧ tn i s'.heap ∧ (∀ b ∈ fp, H' b = none) ∧ W i n H') ?_ m0 ⟨0, H3, I4, st4, left, w0⟩
    rintro n s5 ⟨i, H5, I5, st5, n5, w5⟩
    rcases turn i n H5 w5 with ⟨stop, qq⟩ | ⟨go, Nx, less, step⟩
    · refine thnF (T.done (X.blk s3 H3 scope ce fp) rfl rfl rfl hc i [] s5 _ H5 (fun _ _ => False) I5 (kept I5 n5) st5 stop) fun r s6 ⟨hr, I6⟩ => ?_
      subst hr
      have I7 : Inv X pins σ H5 s6 := I3.call' (ch := fp) I6.os I6.base I6.hok I6.bare fun b hb => ⟨(f3 b hb).1.2.2.2.1, (f3 b hb).1.2.1, (f3 b hb).1.2.2.2.2.1, (f3 b hb).1.2.2.2.2.2⟩
      have nC : H5 s3.heap.objs.size = none := by
        rw [← at_]
        exact I6.free
      obtain ⟨m, hn, _⟩ := I6.loc
      have hn : s6.heap.Ns s3.heap.objs.size m := by
        rw [← at_]
        exact hn
      obtain ⟨a0, a1, a2, a3, a4, a5⟩ := I3.fpOk (Nat.le_refl _) nC
      exact ⟨m, hn, fun h2 sb => ⟨.ref d, H5, I7.turned (t' := s6.toks) (fun b o hb e => (sb.2 b hb).trans e) a0 a1 a3 a4 a5, rfl, qq⟩⟩
    · refine thnF (T.item (X.blk s3 H3 scope ce fp) rfl rfl rfl hc i [] s5 _ H5 (fun _ _ => False) I5 (kept I5 n5) st5 go) fun r s6 ⟨u, hr, h6⟩ => ?_
      subst hr
      refine thnF h6 fun _ s7 ⟨x, H7, I7, r7, y7, st7, n7⟩ => ?_
      have obj7 := T.obj _ _ st7
      refine thnF (bg.run _ s7 _ H7 x u _ (I7.pinned (kept I7 n7) obj7) r7 (step x H7 y7)) fun _ s8 ⟨σ8, H8, I8, hw8, q8⟩ => ?_
      refine thnF (bt.run _ s8 σ8 H8 _ I8 q8) fun yes s9 ⟨H9, I9, q9⟩ => ?_
      -- the turn is over
      have over : ∀ {s' : Shared} {H' : Hp}, Inv (X.blk s3 H3 scope ce fp) ([] ++ pinsAt fp s7.heap) σ8 H' s' → Nx H' → ∃ m, m < n ∧ ∃ i H', Inv (X.blk s3 H3 scope ce fp) [] (wipe σ (own.map (·.2))) H' s' ∧ tn i s'.heap ∧ (∀ b ∈ fp, H' b = none) ∧ W i m H' := fun {s' H'} I' nx => by
        obtain ⟨m', hm, w'⟩ := less H' nx
        have pin : ∀ b ∈ fp, ∀ o, s7.heap.get? b = some o → s'.heap.get? b = some o ∧ H' b = none := fun b hb o e =>
          have z := I'.pin (b, o) (List.mem_append_right _ (List.mem_append_right _ (mem_pinsAt hb e)))
          ⟨z.1, z.2.1⟩
        refine ⟨m', hm, i + 1, H', (I'.unpinned (pins := [])).weak (by rw [← hw8, wipe_length]) (fun j v e => ?_), T.keep _ _ _ st7 fun b hb o e => (pin b hb o e).1, fun b hb => ?_, w'⟩
        · rw [← hw8] at e
          exact (wipe_some e).1
        · obtain ⟨o, e, _⟩ := obj7 b hb
          exact (pin b hb o e).2
      cases yes with
      | false =>
        rw [if_neg Bool.false_ne_true] at q9
        show if false = true then _ else _
        rw [if_neg Bool.false_ne_true]
        exact over I9 q9
      | true =>
        rw [if_pos rfl] at q9
        show if true = true then _ else _
        rw [if_pos rfl]
        refine thnF (bv.run _ s9 σ8 H9 _ I9 q9) fun vu sb ⟨y, Hb, Ib, rb, z, zs, ey, hd2, room, nx⟩ => ?_
        subst ey
        obtain ⟨tz, rfl⟩ := rb
        exact addS_ok (X := X.blk s3 H3 scope ce fp) Ib hd2 room fun sc Ic => over Ic nx
end
end YB

set_option maxHeartbeats 4000000
/-! len of sets over data -/
namespace DL
open PySem PySem.Spec PyProof.Rows L2 LamX RZ RD RE TL XE XA XB XC XD XK YB
theorem setSO_code {P : Program} {w : World} {a : Addr} {zs : List Str} {q : Str} : SetSO P w a zs ≠ LamX.CodeO a q := code_no fun h o vs e d2 sz ⟨o2, es, ep, t, e2, hx, hd, _⟩ => by
  rw [e] at e2
  cases e2
  exact absurd (d2.symm.trans hd) fun z => by cases z
theorem setSO_no {P : Program} {w : World} {a : Addr} {zs : List Str} : NoCo a (SetSO P w a zs) := ⟨fun q => setSO_code, fun q z => by cases z⟩
section
variable {K : PySem.W.Frag} {B : Bx} {Γ : Gam} {te ta : TE} {tt : TT} {wi : TI} {g : TG} {P : D → Prop} {Pg : Program} {w : World}
/-- len({e for a in x if t}), texts, by an invariant -/
theorem ev_lenScS {vs : List Nat} (hi : EvI K B wi Γ fun ds => ds.length ≤ 1000 ∧ ∃ I : Nat → List Str → Prop, I 0 [] ∧
      (∀ i d zs, ds[i]? = some d → I i zs → EvG K B g vs (wipeG Γ vs) d fun Γ' => EvT K B tt Γ' fun k => if k = true then Ev K B te Γ' fun y => ∃ z, y = .str z ∧ I (i + 1) (addS zs z) else I (i + 1) zs) ∧
      ∀ zs, I ds.length zs → P (.int (zs.length : Nat))) : Ev K B (tCB (rLenS Pg w) (tCons (tScS Pg w wi g tt te vs) tNil)) Γ P := fun M σ H Q gd x q =>
  hi M σ H _ gd x fun J H1 ds r1 ⟨hz, I, i0, it, ie⟩ wk p hp => by
    have g1' := gd.r r1
    have x1 := x.r gd r1
    have pb := g1'.fresh_b hp
    have pl := g1'.fresh_l hp
    have w' := wk (p :: M) (fun a ha => List.mem_cons_of_mem _ ha) (fun a ha => by
      rcases List.mem_cons.mp ha with e | ha
      · exact .inr (by rw [e]; exact hp)
      · exact .inl ha)
    refine ⟨fun i m H2 => m = ds.length - i ∧ i ≤ ds.length ∧ ∃ zs, Good K B (p :: M) H2 ∧ R K B H1 H2 ∧ H2 p = some (SetSO Pg w p zs) ∧ zs.length ≤ i ∧ I i zs,
      ⟨ds.length, by simp, Nat.zero_le _, [], g1'.own hp setSO_no, g1'.new hp, upd_same, Nat.le_refl _, i0⟩, ?_⟩
    rintro i m H2 ⟨rfl, hil, zs, g2, r2, hp2, lk, hI⟩
    obtain ⟨wy, ws⟩ := w' H2 g2 (r2.v g2.no)
    by_cases hlt : i < ds.length
    · have hd : ds[i]? = some ds[i] := List.getElem?_eq_getElem hlt
      obtain ⟨wg, wn⟩ := wy i _ hd
      refine .inr ⟨wg, fun H3 => ∃ zs, Good K B (p :: M) H3 ∧ R K B H1 H3 ∧ H3 p = some (SetSO Pg w p zs) ∧ zs.length ≤ i + 1 ∧ I (i + 1) zs,
        fun H' h' => ⟨ds.length - (i + 1), by omega, rfl, hlt, h'⟩, fun v H3 hy => ?_⟩
      obtain ⟨r3, dv⟩ := wn v H3 hy
      have g3 := g2.r r3
      have x3 : EnvOk K (p :: M) H3 σ Γ := env_behind x1 hp (r2.trans r3) g1'.no
      refine it i _ zs hd hI (p :: M) (L2.wipe σ vs) H3 v _ g3 (x3.wipe vs) dv fun σ' Γ' pg x4 hlen hout => ?_
      refine ⟨wipe_eq (by rw [hlen, L2.wipe_length]) hout, ?_⟩
      refine pg (p :: M) σ' H3 _ g3 x4 fun k H4 r4 pk => ?_
      have g4 := g3.r r4
      cases k with
      | false =>
        rw [if_neg Bool.false_ne_true] at pk ⊢
        exact ⟨zs, g4, r2.trans (r3.trans r4), (r3.trans r4).2 p _ hp2 pb, by omega, pk⟩
      | true =>
        rw [if_pos rfl] at pk ⊢
        refine pk (p :: M) σ' H4 _ g4 (x4.r g3 r4) fun y H5 e r5 ⟨z, ez, pz⟩ de => ?_
        subst ez
        cases de
        have g5 := g4.r r5
        have r25 := r3.trans (r4.trans r5)
        have hp5 := r25.2 p _ hp2 pb
        have nc : NoCode H5 p := ⟨fun q z => setSO_code (Option.some.inj (hp5.symm.trans z)), fun q z => by
          rw [hp5] at z
          cases z⟩
        refine ⟨z, zs, rfl, hp5, by unfold scanBound; omega, addS zs z, g5.putOwn pb pl nc (g1'.h0 hp) setSO_no, (r2.trans r25).putNew hp pb pl nc, upd_same, ?_, pz⟩
        unfold addS
        split
        · omega
        · rw [List.length_append, List.length_singleton]; omega
    · have e : i = ds.length := by omega
      subst e
      exact .inl ⟨ws, p, zs, rfl, hp2, by omega, q _ _ _ (r1.trans r2) (ie zs hI) (.int _)⟩
/-- len(set(e)), e a list of at most one made tuple of ints and texts -/
theorem ev_lenSetK (h : Ev K B ta Γ fun d => ∃ xs : List D, d = .lst xs ∧ ((xs = [] ∧ P (.int 0)) ∨ ∃ k, xs = [.tph k] ∧ P (.int 1))) : Ev K B (tLenSetK K ta) Γ P := fun M σ H Q gd x q =>
  h M σ H _ gd x fun v H1 d r ⟨xs, e, p⟩ dn => by
    subst e
    cases dn with
    | lst ha hd =>
      rcases p with ⟨rfl, p⟩ | ⟨k, rfl, p⟩
      · cases hd
        exact ⟨_, rfl, .inl ⟨SqL.of (hid_get ha).2, q _ _ _ r p (.int 0)⟩⟩
      · cases hd with
        | cons d1 hd =>
          cases hd
          cases d1 with
          | tph hk => exact ⟨_, rfl, .inr ⟨_, k, SqL.of (hid_get ha).2, .inl (.inl (hid_get hk).2), q _ _ _ r p (.int 1)⟩⟩
end
end DL

set_option maxHeartbeats 4000000
/-! x in a list or tuple of any plain data -/
namespace YE
open PySem PySem.Spec PyProof.Rows L2
theorem u65 {k : Nat} {A : Around} (r : Room k A) : A.units + 65 < cLine := by have := r.un; omega
def rInA (K : PySem.W.Frag) : R2 := fun x y H Q => ∃ d ds, Dp K H x d ∧ (Dp K H y (.list ds) ∨ Dp K H y (.tuple ds)) ∧ SeqAt.shaped d = true ∧ SeqAt.shaped (.list ds) = true ∧ Q (.bl (ds.any fun z => PyData.eqv z d)) H
theorem op_inA {X : Cx} (hu : X.A.units + 65 < cLine) : OpR X (compareOp .In) (rInA X.K) := by
  intro pins s σ H x y v u Q I rx ry h
  obtain ⟨d, ds, hd, he, sd, se, q⟩ := h
  rcases he with he | he
  · exact op_inD hu pins s σ H x y v u Q I rx ry ⟨d, ds, hd, he, sd, se, q⟩
  · obtain ⟨as, r1⟩ := Dp.reads I d x v hd rx
    cases he with
    | tup hs ha =>
      cases ry
      obtain ⟨its, rv, pl, hlen⟩ := I.tuple hs
      obtain ⟨bs, h4⟩ := Dp.readsAll I ds _ its ha rv
      have hxs : PyData.canLayAll0 ds = true := SeqAt.canLay_of_shaped se
      have hmap : its.map (SeqAt.readOf s.heap) = ds := SeqAt.readsAll_map ds its bs hxs h4
      refine SeqAt.in_tupleAt (fun u => PyData.eqv (SeqAt.readOf s.heap u) d) pl (SeqAt.items_eqAt (vs := its.toArray) (show ReadsAll s.heap its.toArray.toList ds bs from h4) r1 hxs (SeqAt.canLay_of_shaped sd) (room_in_shaped sd hu)) ⟨.bl _, H, I, rfl, ?_⟩
      rw [show its.toArray.any (fun u => PyData.eqv (SeqAt.readOf s.heap u) d) = (its.map (SeqAt.readOf s.heap)).any fun z => PyData.eqv z d by rw [List.any_map]; simp [Function.comp_def], hmap]
      exact q
end YE
namespace DL
open PySem PySem.Spec PyProof.Rows L2 LamX RZ RD RE TL XE XA XB XC XD XK
section
variable {K : PySem.W.Frag} {B : Bx} {Γ : Gam} {ta tb : TE} {P : D → Prop}
/-- x in a list or tuple of plain data -/
theorem ev_inA (h : Ev K B ta Γ fun d => Ev K B tb Γ fun e => ∃ es, (e = .tup es ∨ e = .lst es) ∧ plD d = true ∧ plD (.lst es) = true ∧ (pyD d).canLay0 = true ∧ PyData.canLayAll0 (pyDs es) = true ∧ dpD d ≤ 20 ∧ dpD (.lst es) ≤ 20 ∧ P (.bl ((pyDs es).any fun z => PyData.eqv z (pyD d)))) : Ev K B (tOp (YE.rInA K) ta tb) Γ P :=
  ev_op (h.mono fun d hd => hd.mono fun e ⟨es, e1, p1, p2, c1, c2, p3, p4, p⟩ => fun M H x y Q gd dx dy q => by
    have sh : ∀ d : D, (pyD d).canLay0 = true → dpD d ≤ 20 → SeqAt.shaped (pyD d) = true := fun d hc h => by
      have h2 := pyD_depth d
      show ((pyD d).canLay0 && decide ((pyD d).depth ≤ 64)) = true
      rw [hc, decide_eq_true (by omega)]
      rfl
    have e2 : Dp K H y (.list (pyDs es)) ∨ Dp K H y (.tuple (pyDs es)) := by
      rcases e1 with e1 | e1
      · subst e1; exact .inr ((Den.sub hid_sub _ _ dy).dp (.tup es) _ p2)
      · subst e1; exact .inl ((Den.sub hid_sub _ _ dy).dp _ _ p2)
    exact ⟨pyD d, pyDs es, (Den.sub hid_sub _ _ dx).dp _ _ p1, e2, sh d c1 p3, sh (.lst es) c2 p4, q _ H _ gd.refl p (.bl _)⟩)
end
end DL

set_option maxHeartbeats 4000000
namespace KL
open PySem PySem.Spec PyProof.Rows L2 RZ XE TL DL RD RE XA XB XC XD XK
local macro_rules | `(tactic| walk_at "dl1") => `(tactic| first
  | with_reducible refine rn_seq ?_
  | with_reducible refine rn_if ?_
  | with_reducible refine rn_ret ?_
  | with_reducible refine rn_set ?_
  | with_reducible refine rn_drop ?_
  | with_reducible refine rn_next ?_
  | with_reducible refine et_test ?_
  | with_reducible refine et_B ?_
  | with_reducible refine et_not ?_
  | with_reducible refine et_and ?_
  | with_reducible refine et_or ?_
  | ((with_reducible refine' ev_var ?k1 ?_); (case k1 => exact rfl))
  | with_reducible refine ev_int ?_
  | with_reducible refine ev_str ?_
  | with_reducible refine ev_bl ?_
  | with_reducible refine ev_non ?_
  | with_reducible refine ev_ty ?_
  | with_reducible refine ea_nil ?_
  | with_reducible refine ea_cons ?_
  | with_reducible refine ev_andV ?_
  | with_reducible refine ev_orV ?_
  | with_reducible refine ev_notV ?_
  | with_reducible refine ev_chain ?_
  | with_reducible refine ev_len ?_
  | with_reducible refine ev_all ?_
  | with_reducible refine ev_join ?_
  | with_reducible refine ev_I0 ?_
  | with_reducible refine ev_B0 ?_
  | with_reducible refine ev_I ?_
  | with_reducible refine ev_eq ?_
  | with_reducible refine ev_ne ?_
  | with_reducible refine ev_isN ?_
  | with_reducible refine ev_notN ?_
  | with_reducible refine ev_tup ?_
  | with_reducible refine ev_lst ?_
  | with_reducible refine ev_ix ?_
  | with_reducible refine ev_cat ?_
  | with_reducible refine ev_rep ?_
  | with_reducible refine ev_mulS ?_
  | with_reducible refine ev_add_str ?_
  | with_reducible refine ev_slS ?_
  | with_reducible refine ev_slL ?_
  | with_reducible refine eo_none ?_
  | with_reducible refine eo_some ?_
  | with_reducible refine ev_in_sign ?_
  | with_reducible refine ev_is ?_
  | refine ev_is2 (m := .list) (m' := .tuple) ?_
  | with_reducible refine ev_call ?_)
local macro_rules | `(tactic| walk_at "dl2") => `(tactic| first
  | (refine ⟨_, rfl, ?_⟩; done)
  | (with_reducible refine ⟨_, rfl, ?_⟩)
  | (with_reducible refine ⟨_, _, rfl, rfl, ?_⟩)
  | (refine ⟨_, .str, rfl, rfl, ?_⟩)
  | (refine ⟨_, .int, rfl, rfl, ?_⟩)
  | (refine ⟨_, .bool, rfl, rfl, ?_⟩)
  | (refine ⟨_, .list, rfl, rfl, ?_⟩)
  | (refine ⟨_, .tuple, rfl, rfl, ?_⟩)
  | (refine ⟨rfl, _, rfl, ?_⟩)
  | (refine iT rfl ?_)
  | (refine iF rfl ?_))
local macro_rules | `(tactic| walk_at "dl4") => `(tactic| first
  | with_reducible refine ev_tupleOf ?_
  | with_reducible refine rn_par ?_
  | with_reducible refine ev_ifE ?_
  | with_reducible refine ev_strA ?_
  | with_reducible refine ev_neg ?_
  | with_reducible refine ev_fmt ?_
  | with_reducible refine ev_split ?_
  | with_reducible refine ev_eqP ?_
  | with_reducible refine ev_neP ?_
  | with_reducible refine ev_kin ?_
  | with_reducible refine ev_kix ?_
  | with_reducible refine ea_star ?_
  | with_reducible refine ev_inS ?_
  | with_reducible refine rw_next ?_
  | (with_reducible refine rw_seq ?_)
  | with_reducible refine rw_ret ?_
  | with_reducible refine ev_fld ?_
  | with_reducible refine ev_slT ?_
  | with_reducible refine ev_neg ?_
  | with_reducible refine ev_int1 ?_
  | with_reducible refine ev_dget ?_
  | with_reducible refine ev_catT ?_
  | with_reducible refine rn_par3 ?_
  | with_reducible refine ev_ref ?_)
local macro_rules | `(tactic| walk_at "dn") => `(tactic| repeat first | walk_at "dl1" | walk_at "dl4" | walk_at "dl2")

def topS (i : Nat) : Stmt := PySem.Challenge.pw_oncethrough_k10_sayings_refused.main.body.getD i (.Pass ⟨0, 0, 0, 0⟩)
abbrev s_copied : Stmt := topS 3
abbrev N_copied : List Str := ["value", "deep", "item"]
theorem sc_copied : FnScope N_copied ["value", "deep"] (defScope s_copied) := ⟨rfl, rfl, rfl, by decide +kernel, rfl, by decide +kernel, by decide +kernel⟩
abbrev s_as_items : Stmt := topS 4
abbrev N_as_items : List Str := ["value", "item"]
theorem sc_as_items : FnScope N_as_items ["value"] (defScope s_as_items) := ⟨rfl, rfl, rfl, by decide +kernel, rfl, by decide +kernel, by decide +kernel⟩
abbrev s_OnceError___init__ : Stmt := inClass (topS 5) 0
abbrev N_OnceError___init__ : List Str := ["self", "code"]
theorem sc_OnceError___init__ : FnScope N_OnceError___init__ ["self", "code"] (defScope s_OnceError___init__) := ⟨rfl, rfl, rfl, by decide +kernel, rfl, by decide +kernel, by decide +kernel⟩
abbrev s_InvalidNames___init__ : Stmt := inClass (topS 6) 0
abbrev N_InvalidNames___init__ : List Str := ["self", "given"]
theorem sc_InvalidNames___init__ : FnScope N_InvalidNames___init__ ["self", "given"] (defScope s_InvalidNames___init__) := ⟨rfl, rfl, rfl, by decide +kernel, rfl, by decide +kernel, by decide +kernel⟩
abbrev s_InvalidSaying___init__ : Stmt := inClass (topS 7) 0
abbrev N_InvalidSaying___init__ : List Str := ["self", "given"]
theorem sc_InvalidSaying___init__ : FnScope N_InvalidSaying___init__ ["self", "given"] (defScope s_InvalidSaying___init__) := ⟨rfl, rfl, rfl, by decide +kernel, rfl, by decide +kernel, by decide +kernel⟩
abbrev s_InvalidText___init__ : Stmt := inClass (topS 8) 0
abbrev N_InvalidText___init__ : List Str := ["self", "line"]
theorem sc_InvalidText___init__ : FnScope N_InvalidText___init__ ["self", "line"] (defScope s_InvalidText___init__) := ⟨rfl, rfl, rfl, by decide +kernel, rfl, by decide +kernel, by decide +kernel⟩
abbrev s_Missing___init__ : Stmt := inClass (topS 9) 0
abbrev N_Missing___init__ : List Str := ["self", "code"]
theorem sc_Missing___init__ : FnScope N_Missing___init__ ["self", "code"] (defScope s_Missing___init__) := ⟨rfl, rfl, rfl, by decide +kernel, rfl, by decide +kernel, by decide +kernel⟩
abbrev s_NothingLeft___init__ : Stmt := inClass (topS 10) 0
abbrev N_NothingLeft___init__ : List Str := ["self"]
theorem sc_NothingLeft___init__ : FnScope N_NothingLeft___init__ ["self"] (defScope s_NothingLeft___init__) := ⟨rfl, rfl, rfl, by decide +kernel, rfl, by decide +kernel, by decide +kernel⟩
abbrev s_is_name : Stmt := topS 16
abbrev N_is_name : List Str := ["value", "letter"]
theorem sc_is_name : FnScope N_is_name ["value"] (defScope s_is_name) := ⟨rfl, rfl, rfl, by decide +kernel, rfl, by decide +kernel, by decide +kernel⟩
abbrev s_is_number : Stmt := topS 17
abbrev N_is_number : List Str := ["value", "least", "most"]
theorem sc_is_number : FnScope N_is_number ["value", "least", "most"] (defScope s_is_number) := ⟨rfl, rfl, rfl, by decide +kernel, rfl, by decide +kernel, by decide +kernel⟩
abbrev s_number_in : Stmt := topS 18
abbrev N_number_in : List Str := ["word", "sign"]
theorem sc_number_in : FnScope N_number_in ["word"] (defScope s_number_in) := ⟨rfl, rfl, rfl, by decide +kernel, rfl, by decide +kernel, by decide +kernel⟩
abbrev s_is_test : Stmt := topS 26
abbrev N_is_test : List Str := ["value"]
theorem sc_is_test : FnScope N_is_test ["value"] (defScope s_is_test) := ⟨rfl, rfl, rfl, by decide +kernel, rfl, by decide +kernel, by decide +kernel⟩
abbrev s_has_shape : Stmt := topS 27
abbrev N_has_shape : List Str := ["value"]
theorem sc_has_shape : FnScope N_has_shape ["value"] (defScope s_has_shape) := ⟨rfl, rfl, rfl, by decide +kernel, rfl, by decide +kernel, by decide +kernel⟩
abbrev s_is_saying : Stmt := topS 28
abbrev N_is_saying : List Str := ["value", "scope", "deep", "shape", "inner", "item", "kind"]
theorem sc_is_saying : FnScope N_is_saying ["value", "scope", "deep"] (defScope s_is_saying) := ⟨rfl, rfl, rfl, by decide +kernel, rfl, by decide +kernel, by decide +kernel⟩
abbrev s_is_item : Stmt := topS 29
abbrev N_is_item : List Str := ["kind", "item", "scope", "inner", "deep"]
theorem sc_is_item : FnScope N_is_item ["kind", "item", "scope", "inner", "deep"] (defScope s_is_item) := ⟨rfl, rfl, rfl, by decide +kernel, rfl, by decide +kernel, by decide +kernel⟩
abbrev s_sayings_in : Stmt := topS 30
abbrev N_sayings_in : List Str := ["saying", "parts", "item", "kind", "part", "inner"]
theorem sc_sayings_in : FnScope N_sayings_in ["saying"] (defScope s_sayings_in) := ⟨rfl, rfl, rfl, by decide +kernel, rfl, by decide +kernel, by decide +kernel⟩
abbrev s_table_uses : Stmt := topS 31
abbrev N_table_uses : List Str := ["saying", "form"]
theorem sc_table_uses : FnScope N_table_uses ["saying"] (defScope s_table_uses) := ⟨rfl, rfl, rfl, by decide +kernel, rfl, by decide +kernel, by decide +kernel⟩
abbrev s_is_within_limits : Stmt := topS 32
abbrev N_is_within_limits : List Str := ["names", "saying", "uses", "use"]
theorem sc_is_within_limits : FnScope N_is_within_limits ["names", "saying"] (defScope s_is_within_limits) := ⟨rfl, rfl, rfl, by decide +kernel, rfl, by decide +kernel, by decide +kernel⟩
abbrev s_words_of : Stmt := topS 33
abbrev N_words_of : List Str := ["items", "item", "word"]
theorem sc_words_of : FnScope N_words_of ["items"] (defScope s_words_of) := ⟨rfl, rfl, rfl, by decide +kernel, rfl, by decide +kernel, by decide +kernel⟩
abbrev s_word_at : Stmt := topS 34
abbrev N_word_at : List Str := ["words", "at"]
theorem sc_word_at : FnScope N_word_at ["words", "at"] (defScope s_word_at) := ⟨rfl, rfl, rfl, by decide +kernel, rfl, by decide +kernel, by decide +kernel⟩
abbrev s_read_saying : Stmt := topS 35
abbrev N_read_saying : List Str := ["words", "at", "deep", "first", "items", "kind", "item"]
theorem sc_read_saying : FnScope N_read_saying ["words", "at", "deep"] (defScope s_read_saying) := ⟨rfl, rfl, rfl, by decide +kernel, rfl, by decide +kernel, by decide +kernel⟩
abbrev s_read_item : Stmt := topS 36
abbrev N_read_item : List Str := ["kind", "words", "at", "deep"]
theorem sc_read_item : FnScope N_read_item ["kind", "words", "at", "deep"] (defScope s_read_item) := ⟨rfl, rfl, rfl, by decide +kernel, rfl, by decide +kernel, by decide +kernel⟩
abbrev s_read_test : Stmt := topS 37
abbrev N_read_test : List Str := ["words", "at", "first", "behind", "place"]
theorem sc_read_test : FnScope N_read_test ["words", "at"] (defScope s_read_test) := ⟨rfl, rfl, rfl, by decide +kernel, rfl, by decide +kernel, by decide +kernel⟩
abbrev s_are_names : Stmt := topS 40
abbrev N_are_names : List Str := ["value", "name"]
theorem sc_are_names : FnScope N_are_names ["value"] (defScope s_are_names) := ⟨rfl, rfl, rfl, by decide +kernel, rfl, by decide +kernel, by decide +kernel⟩
abbrev s_Question___init__ : Stmt := inClass (topS 41) 0
abbrev N_Question___init__ : List Str := ["self", "names", "saying"]
theorem sc_Question___init__ : FnScope N_Question___init__ ["self", "names", "saying"] (defScope s_Question___init__) := ⟨rfl, rfl, rfl, by decide +kernel, rfl, by decide +kernel, by decide +kernel⟩
abbrev s_Question_text : Stmt := inClass (topS 41) 4
abbrev N_Question_text : List Str := ["self"]
theorem sc_Question_text : FnScope N_Question_text ["self"] (defScope s_Question_text) := ⟨rfl, rfl, rfl, by decide +kernel, rfl, by decide +kernel, by decide +kernel⟩
abbrev s_Question_read : Stmt := inClass (topS 41) 5
abbrev N_Question_read : List Str := ["text", "words", "colon", "saying", "behind"]
theorem sc_Question_read : FnScope N_Question_read ["text"] (defScope s_Question_read) := ⟨rfl, rfl, rfl, by decide +kernel, rfl, by decide +kernel, by decide +kernel⟩
abbrev s_Question___and__ : Stmt := inClass (topS 41) 6
abbrev N_Question___and__ : List Str := ["self", "other"]
theorem sc_Question___and__ : FnScope N_Question___and__ ["self", "other"] (defScope s_Question___and__) := ⟨rfl, rfl, rfl, by decide +kernel, rfl, by decide +kernel, by decide +kernel⟩
abbrev s_Question___or__ : Stmt := inClass (topS 41) 7
abbrev N_Question___or__ : List Str := ["self", "other"]
theorem sc_Question___or__ : FnScope N_Question___or__ ["self", "other"] (defScope s_Question___or__) := ⟨rfl, rfl, rfl, by decide +kernel, rfl, by decide +kernel, by decide +kernel⟩
abbrev s_Question___eq__ : Stmt := inClass (topS 41) 8
abbrev N_Question___eq__ : List Str := ["self", "other"]
theorem sc_Question___eq__ : FnScope N_Question___eq__ ["self", "other"] (defScope s_Question___eq__) := ⟨rfl, rfl, rfl, by decide +kernel, rfl, by decide +kernel, by decide +kernel⟩
abbrev s_Question___repr__ : Stmt := inClass (topS 41) 9
abbrev N_Question___repr__ : List Str := ["self"]
theorem sc_Question___repr__ : FnScope N_Question___repr__ ["self"] (defScope s_Question___repr__) := ⟨rfl, rfl, rfl, by decide +kernel, rfl, by decide +kernel, by decide +kernel⟩
abbrev s_Question__joined : Stmt := inClass (topS 41) 10
abbrev N_Question__joined : List Str := ["self", "word", "other"]
theorem sc_Question__joined : FnScope N_Question__joined ["self", "word", "other"] (defScope s_Question__joined) := ⟨rfl, rfl, rfl, by decide +kernel, rfl, by decide +kernel, by decide +kernel⟩
abbrev s__law_box : Stmt := topS 43
abbrev N__law_box : List Str := ["_law_script", "_law_mixed", "_law_cell"]
theorem sc__law_box : FnScope N__law_box ["_law_script"] (defScope s__law_box) := ⟨rfl, rfl, rfl, by decide +kernel, rfl, by decide +kernel, by decide +kernel⟩
abbrev s__law_pull : Stmt := topS 44
abbrev N__law_pull : List Str := ["_law_box_here", "_law_many", "_law_cell", "_law_digit", "_law_twice"]
theorem sc__law_pull : FnScope N__law_pull ["_law_box_here", "_law_many"] (defScope s__law_pull) := ⟨rfl, rfl, rfl, by decide +kernel, rfl, by decide +kernel, by decide +kernel⟩
abbrev s__law_of : Stmt := topS 45
abbrev N__law_of : List Str := ["_law_box_here", "_law_some"]
theorem sc__law_of : FnScope N__law_of ["_law_box_here", "_law_some"] (defScope s__law_of) := ⟨rfl, rfl, rfl, by decide +kernel, rfl, by decide +kernel, by decide +kernel⟩
abbrev s__law_words : Stmt := topS 46
abbrev N__law_words : List Str := ["_law_box_here", "_law_many", "_law_letters", "_law_stem", "_law_spot", "_law_first", "_law_k"]
theorem sc__law_words : FnScope N__law_words ["_law_box_here", "_law_many"] (defScope s__law_words) := ⟨rfl, rfl, rfl, by decide +kernel, rfl, by decide +kernel, by decide +kernel⟩
abbrev s__law_same : Stmt := topS 47
abbrev N__law_same : List Str := ["_law_found", "_law_due", "_law_a", "_law_b"]
theorem sc__law_same : FnScope N__law_same ["_law_found", "_law_due"] (defScope s__law_same) := ⟨rfl, rfl, rfl, by decide +kernel, rfl, by decide +kernel, by decide +kernel⟩
abbrev s__law_field : Stmt := topS 48
abbrev N__law_field : List Str := ["_law_e"]
theorem sc__law_field : FnScope N__law_field ["_law_e"] (defScope s__law_field) := ⟨rfl, rfl, rfl, by decide +kernel, rfl, by decide +kernel, by decide +kernel⟩
abbrev s__law_got : Stmt := topS 49
abbrev N__law_got : List Str := ["_law_ask", "_law_e"]
theorem sc__law_got : FnScope N__law_got ["_law_ask"] (defScope s__law_got) := ⟨rfl, rfl, rfl, by decide +kernel, rfl, by decide +kernel, by decide +kernel⟩
abbrev s_law : Stmt := topS 50
abbrev N_law : List Str := ["_law_script", "_law_box_here", "_law_turn", "_law_words_here", "_law_a", "_law_b", "_law_x", "_law_y", "_law_t", "_law_atom", "_law_link", "_law_odd", "_law_bad", "_law_wrong", "_law_around", "_law_told", "_law_good", "_law_kept"]
theorem sc_law : FnScope N_law ["_law_script"] (defScope s_law) := ⟨rfl, rfl, rfl, by decide +kernel, rfl, by decide +kernel, by decide +kernel⟩
structure Txt (K : PySem.W.Frag) (mg : Str → Option Value) (a_copied a_as_items a_is_name a_is_number a_number_in a_is_test a_has_shape a_is_saying a_is_item a_sayings_in a_table_uses a_is_within_limits a_words_of a_word_at a_read_saying a_read_item a_read_test a_are_names a__law_box a__law_pull a__law_of a__law_words a__law_same a__law_field a__law_got a_OnceError a_InvalidNames a_InvalidSaying a_InvalidText a_Missing a_NothingLeft a_Question a_SHAPES a_TESTS : Addr) (t_DEEPEST_COPY t_LETTERS t_DIGITS t_LONGEST_NAME t_LONGEST_NUMBER t_MOST_FORMS t_MOST_DEEP t_MOST_SCOPE t_MOST_BOUND t_MOST_NAMES : Tok) : Prop where
  m_copied : mg "copied" = some (.ref a_copied)
  m_as_items : mg "as_items" = some (.ref a_as_items)
  m_is_name : mg "is_name" = some (.ref a_is_name)
  m_is_number : mg "is_number" = some (.ref a_is_number)
  m_number_in : mg "number_in" = some (.ref a_number_in)
  m_is_test : mg "is_test" = some (.ref a_is_test)
  m_has_shape : mg "has_shape" = some (.ref a_has_shape)
  m_is_saying : mg "is_saying" = some (.ref a_is_saying)
  m_is_item : mg "is_item" = some (.ref a_is_item)
  m_sayings_in : mg "sayings_in" = some (.ref a_sayings_in)
  m_table_uses : mg "table_uses" = some (.ref a_table_uses)
  m_is_within_limits : mg "is_within_limits" = some (.ref a_is_within_limits)
  m_words_of : mg "words_of" = some (.ref a_words_of)
  m_word_at : mg "word_at" = some (.ref a_word_at)
  m_read_saying : mg "read_saying" = some (.ref a_read_saying)
  m_read_item : mg "read_item" = some (.ref a_read_item)
  m_read_test : mg "read_test" = some (.ref a_read_test)
  m_are_names : mg "are_names" = some (.ref a_are_names)
  m__law_box : mg "_law_box" = some (.ref a__law_box)
  m__law_pull : mg "_law_pull" = some (.ref a__law_pull)
  m__law_of : mg "_law_of" = some (.ref a__law_of)
  m__law_words : mg "_law_words" = some (.ref a__law_words)
  m__law_same : mg "_law_same" = some (.ref a__law_same)
  m__law_field : mg "_law_field" = some (.ref a__law_field)
  m__law_got : mg "_law_got" = some (.ref a__law_got)
  m_OnceError : mg "OnceError" = some (.ref a_OnceError)
  m_InvalidNames : mg "InvalidNames" = some (.ref a_InvalidNames)
  m_InvalidSaying : mg "InvalidSaying" = some (.ref a_InvalidSaying)
  m_InvalidText : mg "InvalidText" = some (.ref a_InvalidText)
  m_Missing : mg "Missing" = some (.ref a_Missing)
  m_NothingLeft : mg "NothingLeft" = some (.ref a_NothingLeft)
  m_Question : mg "Question" = some (.ref a_Question)
  k_SHAPES : mg "SHAPES" = some (.ref a_SHAPES)
  k_TESTS : mg "TESTS" = some (.ref a_TESTS)
  c_DEEPEST_COPY : mg "DEEPEST_COPY" = some (.int 40 t_DEEPEST_COPY)
  c_LETTERS : mg "LETTERS" = some (.str "abcdefghijklmnopqrstuvwxyz" t_LETTERS)
  c_DIGITS : mg "DIGITS" = some (.str "0123456789" t_DIGITS)
  c_LONGEST_NAME : mg "LONGEST_NAME" = some (.int 6 t_LONGEST_NAME)
  c_LONGEST_NUMBER : mg "LONGEST_NUMBER" = some (.int 15 t_LONGEST_NUMBER)
  c_MOST_FORMS : mg "MOST_FORMS" = some (.int 12 t_MOST_FORMS)
  c_MOST_DEEP : mg "MOST_DEEP" = some (.int 6 t_MOST_DEEP)
  c_MOST_SCOPE : mg "MOST_SCOPE" = some (.int 6 t_MOST_SCOPE)
  c_MOST_BOUND : mg "MOST_BOUND" = some (.int 8 t_MOST_BOUND)
  c_MOST_NAMES : mg "MOST_NAMES" = some (.int 3 t_MOST_NAMES)
  n_IndexError : mg "IndexError" = none
  n_LookupError : mg "LookupError" = none
  n_ValueError : mg "ValueError" = none
  n_abs : mg "abs" = none
  n_all : mg "all" = none
  n_bool : mg "bool" = none
  n_int : mg "int" = none
  n_isinstance : mg "isinstance" = none
  n_len : mg "len" = none
  n_list : mg "list" = none
  n_range : mg "range" = none
  n_set : mg "set" = none
  n_str : mg "str" = none
  n_tuple : mg "tuple" = none
  n_zip : mg "zip" = none
section
variable {P : Program} {w : World} {K : PySem.W.Frag} {mg : Str → Option Value} {base : Heap} {a_copied : Addr} {a_as_items : Addr} {a_is_name : Addr} {a_is_number : Addr} {a_number_in : Addr} {a_is_test : Addr} {a_has_shape : Addr} {a_is_saying : Addr} {a_is_item : Addr} {a_sayings_in : Addr} {a_table_uses : Addr} {a_is_within_limits : Addr} {a_words_of : Addr} {a_word_at : Addr} {a_read_saying : Addr} {a_read_item : Addr} {a_read_test : Addr} {a_are_names : Addr} {a__law_box : Addr} {a__law_pull : Addr} {a__law_of : Addr} {a__law_words : Addr} {a__law_same : Addr} {a__law_field : Addr} {a__law_got : Addr} {a_OnceError : Addr} {a_InvalidNames : Addr} {a_InvalidSaying : Addr} {a_InvalidText : Addr} {a_Missing : Addr} {a_NothingLeft : Addr} {a_Question : Addr} {a_SHAPES : Addr} {a_TESTS : Addr} {t_DEEPEST_COPY : Tok} {t_LETTERS : Tok} {t_DIGITS : Tok} {t_LONGEST_NAME : Tok} {t_LONGEST_NUMBER : Tok} {t_MOST_FORMS : Tok} {t_MOST_DEEP : Tok} {t_MOST_SCOPE : Tok} {t_MOST_BOUND : Tok} {t_MOST_NAMES : Tok} 
/-- a def that keeps a promise, as its callers need it -/
structure Cal (P : Program) (w : World) (K : PySem.W.Frag) (mg : Str → Option Value) (base : Heap) (k : Nat) (f : Addr) (ps : List Str) (sp : Sp) : Prop where
  ex : ∃ fd, FnOk P w K mg base CX0 k f fd ps sp ∧ PySem.W.keepIn K (.ref f) = true ∧ Binds K fd ps []
theorem set_at {b : Addr} {xs : List V} {k : Int} {j : Nat} {v : V} {H : Hp} {Q : Hp → Prop} (ys : List V) (hb : H b = some (.lst xs)) (hj : ixN xs.length k = some j) (hy : xs.set j v = ys) (h : ∀ H1, (∀ a, a ≠ b → H1 a = H a) → H1 b = some (.lst ys) → Q H1) : rSetL (.ref b) (.int k) v H Q :=
  ⟨b, xs, k, j, rfl, rfl, hb, hj, h _ (fun a na => upd_ne na) (by rw [upd_same, hy])⟩
theorem seqCut {t u : TS} {D : Ends} {σ : L2.St} {H : Hp} (C : L2.St → Hp → Prop) (h2 : ∀ σ' H', C σ' H' → u D σ' H') (h1 : (∀ σ' H', C σ' H' → u D σ' H') → t { D with nx := u D } σ H) : tSeq t u D σ H := h1 h2
/-- what pull promises -/
def fPull : Bx → List D → (D → Prop) → Prop := fun B ds P => ∃ n : Int, ds = [.obj B.b, .int n] ∧ 0 < n ∧ n < 1073741824 ∧ ∀ k : Int, 0 ≤ k → k < n → P (.int k)
theorem ok__law_pull {fd : FuncData} (F : Fun K "_law_pull" "_law_pull" s__law_pull a__law_pull fd) (T : Txt K mg a_copied a_as_items a_is_name a_is_number a_number_in a_is_test a_has_shape a_is_saying a_is_item a_sayings_in a_table_uses a_is_within_limits a_words_of a_word_at a_read_saying a_read_item a_read_test a_are_names a__law_box a__law_pull a__law_of a__law_words a__law_same a__law_field a__law_got a_OnceError a_InvalidNames a_InvalidSaying a_InvalidText a_Missing a_NothingLeft a_Question a_SHAPES a_TESTS t_DEEPEST_COPY t_LETTERS t_DIGITS t_LONGEST_NAME t_LONGEST_NUMBER t_MOST_FORMS t_MOST_DEEP t_MOST_SCOPE t_MOST_BOUND t_MOST_NAMES) : FnOk P w K mg base CX0 1 a__law_pull fd ["_law_box_here", "_law_many"] (SpD K 2 fPull) := by
  refine F.ok sc__law_pull (fun vs H Q E h => h.1) (fun cdv A outer s H vs Q E hr h => ?_)
  obtain ⟨hl, B, M, ds, Pd, g, hd, ⟨n, rfl, n0, n1, p⟩, q⟩ := h
  refine ⟨_, (pss_cons (ps_asg (pe_op op_add (pe_ix (ix_seqK K) (pv 0) pe_int (fun _ _ => rfl)) pe_int) (pg_sub (pv 0) pe_int set_list))
 (pss_cons (ps_if (PW.pt (pw_and (pt_cmpR op_eq (pe_ix (ix_seqK K) (pv 0) pe_int (fun _ _ => rfl)) pe_int (nomark _)) (pw_and1 (pt_cmpR op_lt (pe_ix (ix_seqK K) (pv 0) pe_int (fun _ _ => rfl)) (pe_callB call_len (by rfl) T.n_len PySem.boot_len (pa_cons (pe_ix (ix_seqK K) (pv 0) pe_int (fun _ _ => rfl)) pa_nil)) (nomark _)))))
 (pss_cons (ps_set (i := 2) sc__law_pull.nd rfl (Or.inl rfl) (pe_ix (ix_seqK K) (pe_ix (ix_seqK K) (pv 0) pe_int (fun _ _ => rfl)) (pe_ix (ix_seqK K) (pv 0) pe_int (fun _ _ => rfl)) (fun _ _ => rfl)))
 (pss_cons (ps_asg (pe_op op_add (pe_ix (ix_seqK K) (pv 0) pe_int (fun _ _ => rfl)) pe_int) (pg_sub (pv 0) pe_int set_list))
 (pss_one (ps_if (pt_cmpR op_ge (pe_callB call_abs (by rfl) T.n_abs (by decide +kernel) (pa_cons (pv 2) pa_nil)) (pe_op op_pow pe_int pe_int) (nomark _))
 (pss_one (ps_asg (pe_callB call_abs (by rfl) T.n_abs (by decide +kernel) (pa_cons (pv 2) pa_nil)) (pg_sub (pv 0) pe_int set_list)))
 (pss_one (ps_asg (pe_op op_mod (pe_callTy call_int1 (by rfl) T.n_int (by decide +kernel) (pa_cons (pe_op op_add (pe_op op_add (pe_op op_mul (pe_ix (ix_seqK K) (pv 0) pe_int (fun _ _ => rfl)) pe_int) (pe_op op_mul (pe_op op_mod (pe_callTy call_int1 (by rfl) T.n_int (by decide +kernel) (pa_cons (pv 2) pa_nil)) pe_int) pe_int)) pe_int) pa_nil)) pe_int) (pg_sub (pv 0) pe_int set_list)))))))
 pss_nil)
 (pss_cons (ps_if (pt_cmpR op_gt (pe_ix (ix_seqK K) (pv 0) pe_int (fun _ _ => rfl)) pe_int (nomark _))
 (pss_cons (ps_set (i := 3) sc__law_pull.nd rfl (Or.inl rfl) (pe_op op_mod (pe_callTy call_int1 (by rfl) T.n_int (by decide +kernel) (pa_cons (pe_ix (ix_seqK K) (pv 0) pe_int (fun _ _ => rfl)) pa_nil)) (pv 1)))
 (pss_cons (ps_asg (pe_op op_fdivN (pe_ix (ix_seqK K) (pv 0) pe_int (fun _ _ => rfl)) (pv 1)) (pg_sub (pv 0) pe_int set_list))
 (pss_one (ps_ret (pv 3)))))
 pss_nil)
 (pss_cons (ps_set (i := 4) sc__law_pull.nd rfl (Or.inl rfl) (pe_op op_mod (pe_callTy call_int1 (by rfl) T.n_int (by decide +kernel) (pa_cons (pe_op op_add (pe_op op_mul (pe_ix (ix_seqK K) (pv 0) pe_int (fun _ _ => rfl)) (pe_ix (ix_seqK K) (pv 0) pe_int (fun _ _ => rfl))) (pe_op op_mul (pe_ix (ix_seqK K) (pv 0) pe_int (fun _ _ => rfl)) pe_int)) pa_nil)) pe_int))
 (pss_cons (ps_asg (pe_op op_mod (pe_callTy call_int1 (by rfl) T.n_int (by decide +kernel) (pa_cons (pe_op op_add (pe_op op_add (pe_op op_mul (pv 4) pe_int) (pe_op op_mul (pe_ix (ix_seqK K) (pv 0) pe_int (fun _ _ => rfl)) pe_int)) pe_int) pa_nil)) pe_int) (pg_sub (pv 0) pe_int set_list))
 (pss_one (ps_ret (pe_op op_mod (pe_callTy call_int1 (by rfl) T.n_int (by decide +kernel) (pa_cons (pe_op op_fdivN (pe_ix (ix_seqK K) (pv 0) pe_int (fun _ _ => rfl)) pe_int) pa_nil)) (pv 1))))))))), ?_⟩
  dsimp only [cxOf]
  obtain ⟨ns, i, r, m, c, hb, nlb, hL, hn, r0, m0, m1⟩ := id g.box
  cases hd with
  | cons d1 d2 =>
  cases d2 with
  | cons d2 d3 =>
  cases d3
  cases d1
  cases d2
  have fin : ∀ H' (i' : Nat) (r' m' c' k : Int), (∀ a, a ≠ B.b → H' a = H a) → H' B.b = some (.lst [.ref B.l, .int i', .int r', .int m', .int c']) → 0 ≤ r' → 0 ≤ m' → m' < 2147483587 → 0 ≤ k → k < n → Q (.int k) H' := fun H' i' r' m' c' k e1 e2 e3 e4 e5 e6 e7 =>
    q _ H' (.int k) (R.ofBox ⟨ns, i', r', m', c', e2, nlb, by rw [e1 _ nlb]; exact hL, hn, e3, e4, e5⟩ ⟨_, hb⟩ e1) (p k e6 e7) (.int k)
  -- the counter
  refine ⟨_, rfl, .inl ⟨_, _, _, _, rfl, rfl, SqL.of hb, rfl, _, _, rfl, rfl, _, rfl, set_at [.ref B.l, .int i, .int r, .int m, .int (c + 1)] hb rfl rfl fun H1 e1 hb1 => ?_⟩⟩
  dsimp only
  have hL1 : H1 B.l = some (.lst (ns.map V.int)) := by rw [e1 _ nlb]; exact hL
  refine seqCut (t := tIfS _ _ _) (fun σ' H' => ∃ (v2 : Option V) (i' : Nat) (r' m' c' : Int), σ' = [some (.ref B.b), some (.int n), v2, none, none] ∧ (∀ a, a ≠ B.b → H' a = H a) ∧ H' B.b = some (.lst [.ref B.l, .int i', .int r', .int m', .int c']) ∧ 0 ≤ r' ∧ 0 ≤ m' ∧ m' < 2147483587) (fun σ' H' hC => ?_) (fun rest => ?_)
  · obtain ⟨v2, i', r', m', c', rfl, e2, hb2, r0', m0', m1'⟩ := hC
    refine ⟨_, rfl, .inl ⟨_, _, _, _, rfl, rfl, SqL.of hb2, rfl, _, _, rfl, rfl, _, rfl, ?_⟩⟩
    refine i2 (fun hr0 => ?_) (fun hr0 => ?_)
    · refine ⟨_, rfl, .inl ⟨_, _, _, _, rfl, rfl, SqL.of hb2, rfl, .inl ⟨_, rfl, ?_⟩⟩⟩
      refine ⟨_, rfl, _, _, rfl, rfl, n0, ?_⟩
      refine ⟨_, rfl, .inl ⟨_, _, _, _, rfl, rfl, SqL.of hb2, rfl, ?_⟩⟩
      refine ⟨_, rfl, _, _, rfl, rfl, ⟨by omega, by omega⟩, ?_⟩
      refine ⟨_, rfl, set_at [.ref B.l, .int i', .int (r'.fdiv n), .int m', .int c'] hb2 rfl rfl fun H3 e3 hb3 => ?_⟩
      refine ⟨_, rfl, ?_⟩
      refine fin _ i' (r'.fdiv n) m' c' (r' % n) (fun a na => (e3 a na).trans (e2 a na)) hb3 ?_ m0' m1' (Int.emod_nonneg _ (by omega)) (Int.emod_lt_of_pos _ n0)
      rw [Int.fdiv_eq_ediv_of_nonneg _ (by omega)]
      exact Int.ediv_nonneg r0' (by omega)
    · -- twice
      refine ⟨_, rfl, .inl ⟨_, _, _, _, rfl, rfl, SqL.of hb2, rfl, ?_⟩⟩
      refine ⟨_, rfl, .inl ⟨_, _, _, _, rfl, rfl, SqL.of hb2, rfl, ?_⟩⟩
      refine ⟨_, _, rfl, rfl, .inl ⟨by omega, by omega⟩, ?_⟩
      refine ⟨_, rfl, .inl ⟨_, _, _, _, rfl, rfl, SqL.of hb2, rfl, ?_⟩⟩
      refine ⟨_, _, rfl, rfl, .inr ⟨by omega, by omega⟩, ?_⟩
      refine ⟨_, _, rfl, rfl, .inl ⟨_, rfl, ?_⟩⟩
      refine ⟨_, _, rfl, rfl, (by show (0 : Int) < _; decide), ?_⟩
      dsimp only
      have t0 : 0 ≤ (m' * m' + c' * 8291) % 2147483543 := Int.emod_nonneg _ (by omega)
      have t1 : (m' * m' + c' * 8291) % 2147483543 < 2147483543 := Int.emod_lt_of_pos _ (by omega)
      generalize (m' * m' + c' * 8291) % 2147483543 = tw at t0 t1
      refine ⟨_, rfl, _, _, rfl, rfl, .inl ⟨by omega, by omega⟩, ?_⟩
      refine ⟨_, rfl, .inl ⟨_, _, _, _, rfl, rfl, SqL.of hb2, rfl, ?_⟩⟩
      refine ⟨_, _, rfl, rfl, .inl ⟨by omega, by omega⟩, ?_⟩
      refine ⟨_, _, rfl, rfl, _, _, rfl, rfl, .inl ⟨_, rfl, ?_⟩⟩
      refine ⟨_, _, rfl, rfl, (by show (0 : Int) < _; decide), ?_⟩
      dsimp only
      have u0 : 0 ≤ (tw * 15907 + m' * 60013 + 53987) % 2147483587 := Int.emod_nonneg _ (by omega)
      have u1 : (tw * 15907 + m' * 60013 + 53987) % 2147483587 < 2147483587 := Int.emod_lt_of_pos _ (by omega)
      generalize (tw * 15907 + m' * 60013 + 53987) % 2147483587 = mm at u0 u1
      refine ⟨_, rfl, set_at [.ref B.l, .int i', .int r', .int mm, .int c'] hb2 rfl rfl fun H3 e3 hb3 => ?_⟩
      refine ⟨_, rfl, .inl ⟨_, _, _, _, rfl, rfl, SqL.of hb3, rfl, ?_⟩⟩
      refine ⟨_, _, rfl, rfl, ⟨by decide, by decide⟩, ?_⟩
      refine .inl ⟨_, rfl, ?_⟩
      refine ⟨_, rfl, _, _, rfl, rfl, n0, ?_⟩
      exact fin _ i' r' mm c' _ (fun a na => (e3 a na).trans (e2 a na)) hb3 r0' u0 u1 (Int.emod_nonneg _ (by omega)) (Int.emod_lt_of_pos _ n0)
  · -- the next item of the script, where one is left
    refine ⟨_, rfl, .inl ⟨_, _, _, _, rfl, rfl, SqL.of hb1, rfl, ?_⟩⟩
    refine ⟨rfl, _, rfl, ?_⟩
    have same : ∀ v2 : Option V, ∃ (v2' : Option V) (i' : Nat) (r' m' c' : Int), [some (V.ref B.b), some (V.int n), v2, none, none] = [some (V.ref B.b), some (V.int n), v2', none, none] ∧ (∀ a, a ≠ B.b → H1 a = H a) ∧ H1 B.b = some (.lst [.ref B.l, .int i', .int r', .int m', .int c']) ∧ 0 ≤ r' ∧ 0 ≤ m' ∧ m' < 2147483587 := fun v2 => ⟨v2, i, r, m, c + 1, rfl, e1, hb1, r0, m0, m1⟩
    refine i2 (fun hr0 => ?_) (fun hr0 => iF rfl (rest _ _ (same none)))
    refine ⟨_, rfl, .inl ⟨_, _, _, _, rfl, rfl, SqL.of hb1, rfl, ?_⟩⟩
    refine ⟨_, rfl, .inl ⟨_, _, _, _, rfl, rfl, SqL.of hb1, rfl, ?_⟩⟩
    refine ⟨_, _, rfl, .inl ⟨_, SqL.of hL1, rfl⟩, _, _, rfl, rfl, _, rfl, ?_⟩
    refine i2 (fun hi => ?_) (fun hi => rest _ _ (same none))
    have hil : i < ns.length := by
      have := of_decide_eq_true hi
      rw [List.length_map] at this
      omega
    refine ⟨_, rfl, .inl ⟨_, _, _, _, rfl, rfl, SqL.of hb1, rfl, ?_⟩⟩
    refine ⟨_, rfl, .inl ⟨_, _, _, _, rfl, rfl, SqL.of hb1, rfl, ?_⟩⟩
    have ha : atI (ns.map V.int) (i : Int) = some (.int ns[i]) := atI_nat (by rw [List.getElem?_map, List.getElem?_eq_getElem hil]; rfl)
    refine .inl ⟨_, _, _, _, rfl, rfl, SqL.of hL1, ha, ?_⟩
    generalize ns[i] = z
    refine ⟨_, rfl, .inl ⟨_, _, _, _, rfl, rfl, SqL.of hb1, rfl, _, _, rfl, rfl, _, rfl, set_at [.ref B.l, .int ((i : Int) + 1), .int r, .int m, .int (c + 1)] hb1 rfl rfl fun H2 e2' hb2 => ?_⟩⟩
    have e2 : ∀ a, a ≠ B.b → H2 a = H a := fun a na => (e2' a na).trans (e1 a na)
    dsimp only
    refine ⟨_, rfl, _, rfl, _, _, rfl, rfl, ⟨by decide, by decide, by decide⟩, _, _, rfl, rfl, _, rfl, ?_⟩
    refine i2 (fun hz => ?_) (fun hz => ?_)
    · refine ⟨_, rfl, _, rfl, ?_⟩
      refine ⟨_, rfl, set_at [.ref B.l, .int ((i : Int) + 1), .int (if z < 0 then -z else z), .int m, .int (c + 1)] hb2 rfl rfl fun H3 e3 hb3 => ?_⟩
      exact rest _ _ ⟨_, i + 1, if z < 0 then -z else z, m, c + 1, rfl, fun a na => (e3 a na).trans (e2 a na), hb3, by split <;> omega, m0, m1⟩
    · refine ⟨_, rfl, .inl ⟨_, _, _, _, rfl, rfl, SqL.of hb2, rfl, ?_⟩⟩
      refine ⟨_, _, rfl, rfl, .inl ⟨by omega, by omega⟩, ?_⟩
      refine ⟨_, rfl, .inl ⟨_, rfl, ?_⟩⟩
      refine ⟨_, _, rfl, rfl, (by show (0 : Int) < _; decide), ?_⟩
      refine ⟨_, _, rfl, rfl, .inr ⟨by omega, by omega⟩, ?_⟩
      refine ⟨_, _, rfl, rfl, _, _, rfl, rfl, .inl ⟨_, rfl, ?_⟩⟩
      refine ⟨_, _, rfl, rfl, (by show (0 : Int) < _; decide), ?_⟩
      dsimp only
      have u0 : 0 ≤ (m * 40093 + z % 1000003 * 727 + 37) % 2147483587 := Int.emod_nonneg _ (by omega)
      have u1 : (m * 40093 + z % 1000003 * 727 + 37) % 2147483587 < 2147483587 := Int.emod_lt_of_pos _ (by omega)
      generalize (m * 40093 + z % 1000003 * 727 + 37) % 2147483587 = mm at u0 u1
      refine ⟨_, rfl, set_at [.ref B.l, .int ((i : Int) + 1), .int r, .int mm, .int (c + 1)] hb2 rfl rfl fun H3 e3 hb3 => ?_⟩
      exact rest _ _ ⟨_, i + 1, r, mm, c + 1, rfl, fun a na => (e3 a na).trans (e2 a na), hb3, r0, u0, u1⟩

/-- what of promises: an item of d -/
def fOf : Bx → List D → (D → Prop) → Prop := fun B ds P => ∃ (d : D) (n : Nat), ds = [.obj B.b, d] ∧ lenD d = some n ∧ 1 ≤ n ∧ n ≤ 1000000 ∧ ∀ k : Nat, k < n → ∃ e, itemD d (.int (k : Int)) = some e ∧ P e
theorem ok__law_of {fd : FuncData} (F : Fun K "_law_of" "_law_of" s__law_of a__law_of fd) (T : Txt K mg a_copied a_as_items a_is_name a_is_number a_number_in a_is_test a_has_shape a_is_saying a_is_item a_sayings_in a_table_uses a_is_within_limits a_words_of a_word_at a_read_saying a_read_item a_read_test a_are_names a__law_box a__law_pull a__law_of a__law_words a__law_same a__law_field a__law_got a_OnceError a_InvalidNames a_InvalidSaying a_InvalidText a_Missing a_NothingLeft a_Question a_SHAPES a_TESTS t_DEEPEST_COPY t_LETTERS t_DIGITS t_LONGEST_NAME t_LONGEST_NUMBER t_MOST_FORMS t_MOST_DEEP t_MOST_SCOPE t_MOST_BOUND t_MOST_NAMES) (C__law_pull : Cal P w K mg base 1 a__law_pull ["_law_box_here", "_law_many"] (SpD K 2 fPull)) :
    FnOk P w K mg base CX0 2 a__law_of fd ["_law_box_here", "_law_some"] (SpD K 2 fOf) := by
  obtain ⟨fd__law_pull, G__law_pull, kp__law_pull, b__law_pull⟩ := C__law_pull.ex
  refine F.ok sc__law_of (fun vs H Q E h => h.1) (fun cdv A outer s H vs Q E hr h => ?_)
  obtain ⟨hl, B, M, ds, Pd, g, hd, ⟨d, n, rfl, hn, n1, n2, p⟩, q⟩ := h
  refine ⟨_, (pss_one (ps_ret (pe_ix (ix_seqK K) (pv 1) (pe_call G__law_pull (hr.mono (by omega)) (by rfl) T.m__law_pull kp__law_pull b__law_pull .nil pass0 (pa_cons (pv 0) (pa_cons (pe_callB call_len (by rfl) T.n_len PySem.boot_len (pa_cons (pv 1) pa_nil)) pa_nil))) (fun _ _ => rfl)))), ?_⟩
  refine run_body g hd q ?_
  dsimp only [cxOf]
  repeat first | walk_at "dl1" | walk_at "dl2"
  refine ⟨_, _, rfl, hn, ?_⟩
  repeat first | walk_at "dl1" | walk_at "dl2"
  refine ⟨by omega, by omega, fun k k0 k1 => ?_⟩
  obtain ⟨j, rfl⟩ : ∃ j : Nat, k = (j : Int) := ⟨k.toNat, by omega⟩
  exact p j (by omega)
def fSame : Nat → Bx → List D → (D → Prop) → Prop
  | 0 => fun _ _ _ => False
  | n + 1 => fun _ ds P => ∃ d, ds = [d, d] ∧ Pl n d ∧ P (.bl true)
theorem zip_self : ∀ {ds : List D} {d : D}, d ∈ zipD ds ds → ∃ x, x ∈ ds ∧ d = .tup [x, x]
  | [], _, h => by simp [zipD] at h
  | x :: xs, d, h => by
    rcases List.mem_cons.mp h with e | h
    · exact ⟨x, List.mem_cons_self, e⟩
    · obtain ⟨y, hy, e⟩ := zip_self h
      exact ⟨y, List.mem_cons_of_mem _ hy, e⟩
theorem all_true {α : Type} (xs : List α) : (xs.map fun _ => true).all id = true := by
  rw [List.all_map]
  exact List.all_eq_true.mpr fun _ _ => rfl
theorem none_sp {f : Addr} {fd : FuncData} {ps : List Str} {n : Nat} (e : ps.length = n) : FnOk P w K mg base CX0 0 f fd ps (SpD K n fun _ _ _ => False) :=
  ⟨fun vs H Q E h => h.1.trans e.symm, fun A outer s H args us vs Q E _ _ _ _ h => by
    obtain ⟨_, _, _, _, _, _, _, z, _⟩ := h
    exact z.elim⟩
theorem ok__law_same {fd : FuncData} (F : Fun K "_law_same" "_law_same" s__law_same a__law_same fd) (T : Txt K mg a_copied a_as_items a_is_name a_is_number a_number_in a_is_test a_has_shape a_is_saying a_is_item a_sayings_in a_table_uses a_is_within_limits a_words_of a_word_at a_read_saying a_read_item a_read_test a_are_names a__law_box a__law_pull a__law_of a__law_words a__law_same a__law_field a__law_got a_OnceError a_InvalidNames a_InvalidSaying a_InvalidText a_Missing a_NothingLeft a_Question a_SHAPES a_TESTS t_DEEPEST_COPY t_LETTERS t_DIGITS t_LONGEST_NAME t_LONGEST_NUMBER t_MOST_FORMS t_MOST_DEEP t_MOST_SCOPE t_MOST_BOUND t_MOST_NAMES) (b__law_same : Binds K fd ["_law_found", "_law_due"] []) :
    ∀ n : Nat, FnOk P w K mg base CX0 n a__law_same fd ["_law_found", "_law_due"] (SpD K 2 (fSame n))
  | 0 => none_sp rfl
  | n + 1 => by
    have G__law_same := ok__law_same F T b__law_same n
    have kp__law_same := F.kp
    refine F.ok sc__law_same (fun vs H Q E h => h.1) (fun cdv A outer s H vs Q E hr h => ?_)
    obtain ⟨hl, B, M, ds, Pd, g, hd, ⟨d, rfl, hp, p⟩, q⟩ := h
    refine ⟨_, (pss_cons (ps_if (PW.pt (pw_or (pt_cmpR op_isN (pv 1) pe_non (nomark _)) (pw_or1 (pt_cmpR op_isN (pv 0) pe_non (nomark _)))))
 (pss_one (ps_ret (pe_and (pe_cmpR op_isN (pv 1) pe_non (nomark _)) (pe_one (pe_cmpR op_isN (pv 0) pe_non (nomark _))))))
 pss_nil)
 (pss_cons (ps_if (pt_val (pe_callB call_isiT (by rfl) T.n_isinstance (by decide +kernel) (pa_cons (pv 1) (pa_cons (pe_tup (pa_cons (pe_bltn (v := .ty "list") (u := .type "list") (by rfl) T.n_list (by decide +kernel) rfl) (pa_cons (pe_bltn (v := .ty "tuple") (u := .type "tuple") (by rfl) T.n_tuple (by decide +kernel) rfl) pa_nil))) pa_nil))))
 (pss_cons (ps_if (PW.pt (pw_or (pt_cmpR op_ne (pe_callB call_isi (by rfl) T.n_isinstance (by decide +kernel) (pa_cons (pv 0) (pa_cons (pe_bltn (v := .ty "list") (u := .type "list") (by rfl) T.n_list (by decide +kernel) rfl) pa_nil))) (pe_callB call_isi (by rfl) T.n_isinstance (by decide +kernel) (pa_cons (pv 1) (pa_cons (pe_bltn (v := .ty "list") (u := .type "list") (by rfl) T.n_list (by decide +kernel) rfl) pa_nil))) (nomark _)) (pw_or1 (pt_cmpR op_ne (pe_callB call_isi (by rfl) T.n_isinstance (by decide +kernel) (pa_cons (pv 0) (pa_cons (pe_bltn (v := .ty "tuple") (u := .type "tuple") (by rfl) T.n_tuple (by decide +kernel) rfl) pa_nil))) (pe_callB call_isi (by rfl) T.n_isinstance (by decide +kernel) (pa_cons (pv 1) (pa_cons (pe_bltn (v := .ty "tuple") (u := .type "tuple") (by rfl) T.n_tuple (by decide +kernel) rfl) pa_nil))) (nomark _)))))
 (pss_one (ps_ret pe_bl))
 pss_nil)
 (pss_one (ps_ret (pe_and (pe_cmpR op_eq (pe_callB call_len (by rfl) T.n_len PySem.boot_len (pa_cons (pv 0) pa_nil)) (pe_callB call_len (by rfl) T.n_len PySem.boot_len (pa_cons (pv 1) pa_nil)) (nomark _)) (pe_one (pe_callB (cr_all rfl) (by rfl) T.n_all (by decide +kernel) (pa_cons (pe_lc (own := [("_law_a", 2), ("_law_b", 3)]) (g := (gTup K 2 (gCons (gName 2) (gCons (gName 3) gNil)))) (tt := tYes) (by rfl) sc__law_same.nd (pi_zipA (by rfl) T.n_zip (pa_cons (pv 0) (pa_cons (pv 1) pa_nil))) (blkOk_by (own := [("_law_a", 2), ("_law_b", 3)]) (N := N__law_same) (sc := defScope s__law_same) (by decide +kernel)) (fun _ _ _ _ _ => (pg_tup rfl (pgs_cons (pg_name (i := 2) sc__law_same.nd rfl (Or.inl rfl)) (pgs_cons (pg_name (i := 3) sc__law_same.nd rfl (Or.inl rfl)) pgs_nil)))) (fun _ _ _ _ _ => pts_nil) (fun _ _ _ _ _ => (pe_call G__law_same (hr.mono (by omega)) (by rfl) T.m__law_same kp__law_same b__law_same .nil pass0 (pa_cons (pv 2) (pa_cons (pv 3) pa_nil))))) pa_nil)))))))
 pss_nil)
 (pss_cons (ps_if (PW.pt (pw_or (pt_val (pe_callB call_isi (by rfl) T.n_isinstance (by decide +kernel) (pa_cons (pv 1) (pa_cons (pe_bltn (v := .ty "bool") (u := .type "bool") (by rfl) T.n_bool (by decide +kernel) rfl) pa_nil)))) (pw_or1 (pt_val (pe_callB call_isi (by rfl) T.n_isinstance (by decide +kernel) (pa_cons (pv 0) (pa_cons (pe_bltn (v := .ty "bool") (u := .type "bool") (by rfl) T.n_bool (by decide +kernel) rfl) pa_nil)))))))
 (pss_one (ps_ret (pe_and (pe_callB call_isi (by rfl) T.n_isinstance (by decide +kernel) (pa_cons (pv 1) (pa_cons (pe_bltn (v := .ty "bool") (u := .type "bool") (by rfl) T.n_bool (by decide +kernel) rfl) pa_nil))) (pe_and (pe_callB call_isi (by rfl) T.n_isinstance (by decide +kernel) (pa_cons (pv 0) (pa_cons (pe_bltn (v := .ty "bool") (u := .type "bool") (by rfl) T.n_bool (by decide +kernel) rfl) pa_nil))) (pe_one (pe_cmpR op_eq (pv 0) (pv 1) (nomark _)))))))
 pss_nil)
 (pss_cons (ps_if (pt_val (pe_callB call_isi (by rfl) T.n_isinstance (by decide +kernel) (pa_cons (pv 1) (pa_cons (pe_bltn (v := .ty "int") (u := .type "int") (by rfl) T.n_int (by decide +kernel) rfl) pa_nil))))
 (pss_one (ps_ret (pe_and (pe_callB call_isi (by rfl) T.n_isinstance (by decide +kernel) (pa_cons (pv 0) (pa_cons (pe_bltn (v := .ty "int") (u := .type "int") (by rfl) T.n_int (by decide +kernel) rfl) pa_nil))) (pe_one (pe_cmpR op_eq (pv 0) (pv 1) (nomark _))))))
 pss_nil)
 (pss_one (ps_ret (pe_and (pe_callB call_isi (by rfl) T.n_isinstance (by decide +kernel) (pa_cons (pv 0) (pa_cons (pe_bltn (v := .ty "str") (u := .type "str") (by rfl) T.n_str (by decide +kernel) rfl) pa_nil))) (pe_and (pe_callB call_isi (by rfl) T.n_isinstance (by decide +kernel) (pa_cons (pv 1) (pa_cons (pe_bltn (v := .ty "str") (u := .type "str") (by rfl) T.n_str (by decide +kernel) rfl) pa_nil))) (pe_one (pe_cmpR op_eq (pv 0) (pv 1) (nomark _))))))))))), ?_⟩
    refine run_body g hd q ?_
    dsimp only [cxOf]
    cases hp with
    | non =>
      repeat first | walk_at "dl1" | walk_at "dl2"
      exact p
    | bl x =>
      repeat first | walk_at "dl1" | walk_at "dl2"
      show Pd (D.bl (decide (x = x)))
      rw [decide_eq_true rfl]
      exact p
    | int x =>
      repeat first | walk_at "dl1" | walk_at "dl2"
      show Pd (D.bl (decide (x = x)))
      rw [decide_eq_true rfl]
      exact p
    | str x =>
      repeat first | walk_at "dl1" | walk_at "dl2"
      show Pd (D.bl (decide (x = x)))
      rw [decide_eq_true rfl]
      exact p
    | @lst _ es hx hln =>
      repeat first | walk_at "dl1" | walk_at "dl2"
      refine iT (decide_eq_true rfl) ?_
      repeat first | walk_at "dl1" | walk_at "dl2"
      refine ev_lc_map (ei_zip (ea_cons (ev_var rfl (ea_cons (ev_var rfl (ea_nil ⟨es, es, .inl rfl, ?_, fun _ => .bl true, fun d hd' => ?_, ?_⟩))))))
      · exact Nat.lt_of_le_of_lt (Nat.le_trans zipD_le hln) (by rw [sizeLine_eq]; decide)
      · obtain ⟨x, hx', rfl⟩ := zip_self hd'
        refine eg_pair (by decide) (by decide) ?_
        repeat first | walk_at "dl1" | walk_at "dl2"
        exact ⟨hx x hx', rfl⟩
      · repeat first | walk_at "dl1" | walk_at "dl2"
        refine ⟨(zipD es es).map fun _ => true, ?_, ?_⟩
        · rw [List.map_map]; rfl
        · rw [all_true]; exact p
    | @tup _ es hx hln =>
      repeat first | walk_at "dl1" | walk_at "dl2"
      refine iT (decide_eq_true rfl) ?_
      repeat first | walk_at "dl1" | walk_at "dl2"
      refine ev_lc_map (ei_zip (ea_cons (ev_var rfl (ea_cons (ev_var rfl (ea_nil ⟨es, es, .inr rfl, ?_, fun _ => .bl true, fun d hd' => ?_, ?_⟩))))))
      · exact Nat.lt_of_le_of_lt (Nat.le_trans zipD_le hln) (by rw [sizeLine_eq]; decide)
      · obtain ⟨x, hx', rfl⟩ := zip_self hd'
        refine eg_pair (by decide) (by decide) ?_
        repeat first | walk_at "dl1" | walk_at "dl2"
        exact ⟨hx x hx', rfl⟩
      · repeat first | walk_at "dl1" | walk_at "dl2"
        refine ⟨(zipD es es).map fun _ => true, ?_, ?_⟩
        · rw [List.map_map]; rfl
        · rw [all_true]; exact p
/-- the box is made -/
def spBox (K : PySem.W.Frag) : Sp := fun vs H Q _ => ∃ (a : Addr) (ns : List Int), vs = [.ref a] ∧ SqL K H a (ns.map V.int) ∧ ns.length ≤ 63 ∧ ∀ (b l : Addr) (H' : Hp), Same H H' → H b = none → H l = none → BoxOk K { b := b, l := l, t := b, q := Str.empty } H' → Q (.ref b) H'
theorem ok__law_box {fd : FuncData} (F : Fun K "_law_box" "_law_box" s__law_box a__law_box fd) (T : Txt K mg a_copied a_as_items a_is_name a_is_number a_number_in a_is_test a_has_shape a_is_saying a_is_item a_sayings_in a_table_uses a_is_within_limits a_words_of a_word_at a_read_saying a_read_item a_read_test a_are_names a__law_box a__law_pull a__law_of a__law_words a__law_same a__law_field a__law_got a_OnceError a_InvalidNames a_InvalidSaying a_InvalidText a_Missing a_NothingLeft a_Question a_SHAPES a_TESTS t_DEEPEST_COPY t_LETTERS t_DIGITS t_LONGEST_NAME t_LONGEST_NUMBER t_MOST_FORMS t_MOST_DEEP t_MOST_SCOPE t_MOST_BOUND t_MOST_NAMES) : FnOk P w K mg base CX0 1 a__law_box fd ["_law_script"] (spBox K) := by
  refine F.ok sc__law_box (fun vs H Q E h => ?_) (fun cdv A outer s H vs Q E hr h => ?_)
  · obtain ⟨a, ns, rfl, _⟩ := h
    rfl
  obtain ⟨a, ns, rfl, hs, hn, q⟩ := h
  refine ⟨_, (pss_cons (ps_set (i := 1) sc__law_box.nd rfl (Or.inl rfl) pe_int)
 (pss_cons (ps_for PassesOwn.never rfl (pi_list (pe_slice sl_list (pv 0) po_none (po_some pe_int))) (pg_name (i := 2) sc__law_box.nd rfl (Or.inl rfl))
 (pss_one (ps_set (i := 1) sc__law_box.nd rfl (Or.inl rfl) (pe_op op_mod (pe_callTy call_int1 (by rfl) T.n_int (by decide +kernel) (pa_cons (pe_op op_add (pe_op op_add (pe_op op_mul (pv 1) pe_int) (pe_op op_mul (pe_op op_mod (pe_callTy call_int1 (by rfl) T.n_int (by decide +kernel) (pa_cons (pv 2) pa_nil)) pe_int) pe_int)) pe_int) pa_nil)) pe_int))))
 (pss_one (ps_ret (pe_lst (pa_cons (pe_callTy call_list_of (by rfl) T.n_list (by decide +kernel) (pa_cons (pe_slice sl_list (pv 0) po_none (po_some pe_int)) pa_nil)) (pa_cons pe_int (pa_cons pe_int (pa_cons (pv 1) (pa_cons pe_int pa_nil)))))))))), ?_⟩
  dsimp only [cxOf]
  have cut : cutV (ns.map V.int) none (some 63) = ns.map V.int := by
    unfold cutV
    rw [HT.sIx_none, show HT.sIx (ns.map V.int).length (ns.map V.int).length (some 63) = min 63 (ns.map V.int).length from HT.sIx_nat _ _ 63, List.length_map, List.drop_zero]
    exact List.take_of_length_le (by rw [List.length_map]; omega)
  refine ⟨_, rfl, 63, rfl, a, _, rfl, hs, fun p hp => ?_⟩
  rw [cut]
  have s1 : Same H (upd H p (.lst (ns.map V.int))) := fun c o e => by rw [upd_ne (ne_of_none e hp)]; exact e
  have hp1 : (upd H p (.lst (ns.map V.int))) p = some (.lst (ns.map V.int)) := upd_same
  generalize upd H p (.lst (ns.map V.int)) = H1 at s1 hp1
  refine ⟨p, rfl, ⟨_, SqL.of hp1⟩, ?_⟩
  refine for_list (xs := ns.map V.int) (fun i σ H' => ∃ (m : Int) (v2 : Option V), σ = [some (.ref a), some (.int m), v2] ∧ 0 ≤ m ∧ m < 2147483579 ∧ H' = H1) ⟨12022, none, rfl, by decide, by decide, rfl⟩ (fun i σ H' _ hP => ?_) (fun i x σ H' hx hP => ?_) (fun σ H' hP => ?_)
  · obtain ⟨_, _, _, _, _, rfl⟩ := hP
    exact SqL.of hp1
  · obtain ⟨m, v2, rfl, m0, m1, rfl⟩ := hP
    rw [List.getElem?_map] at hx
    obtain ⟨z, hz, rfl⟩ := Option.map_eq_some_iff.mp hx
    refine ⟨_, rfl, _, _, rfl, rfl, .inl ⟨by omega, by omega⟩, ?_⟩
    refine ⟨_, rfl, .inl ⟨_, rfl, ?_⟩⟩
    refine ⟨_, _, rfl, rfl, (by show (0 : Int) < _; decide), ?_⟩
    refine ⟨_, _, rfl, rfl, .inr ⟨by omega, by omega⟩, ?_⟩
    refine ⟨_, _, rfl, rfl, _, _, rfl, rfl, .inl ⟨_, rfl, ?_⟩⟩
    refine ⟨_, _, rfl, rfl, (by show (0 : Int) < _; decide), ?_⟩
    exact ⟨_, _, rfl, Int.emod_nonneg _ (by omega), Int.emod_lt_of_pos _ (by omega), rfl⟩
  · obtain ⟨m, v2, rfl, m0, m1, rfl⟩ := hP
    have hs1 : SqL K H' a (ns.map V.int) := s1.seq hs
    refine ⟨_, rfl, 63, rfl, a, _, rfl, hs1, fun p2 hp2 => ?_⟩
    rw [cut]
    have s2 : Same H' (upd H' p2 (.lst (ns.map V.int))) := fun c o e => by rw [upd_ne (ne_of_none e hp2)]; exact e
    have hq2 : (upd H' p2 (.lst (ns.map V.int))) p2 = some (.lst (ns.map V.int)) := upd_same
    generalize upd H' p2 (.lst (ns.map V.int)) = H2 at s2 hq2
    refine ⟨p2, _, rfl, .inl (SqL.of hq2), fun l hl => ?_⟩
    have s3 : Same H2 (upd H2 l (.lst (ns.map V.int))) := fun c o e => by rw [upd_ne (ne_of_none e hl)]; exact e
    have hq3 : (upd H2 l (.lst (ns.map V.int))) l = some (.lst (ns.map V.int)) := upd_same
    generalize upd H2 l (.lst (ns.map V.int)) = H3 at s3 hq3
    refine ⟨_, rfl, (by show 5 ≤ sizeLine; rw [sizeLine_eq]; decide), fun b hb => ?_⟩
    have s4 : Same H3 (upd H3 b (.lst [.ref l, .int 0, .int 0, .int m, .int 0])) := fun c o e => by rw [upd_ne (ne_of_none e hb)]; exact e
    have sa : Same H H2 := s1.trans s2
    refine q b l _ ((sa.trans s3).trans s4) ((sa.trans s3).free hb) (sa.free hl) ⟨ns, 0, 0, m, 0, upd_same, ne_of_none hq3 hb, s4 _ _ hq3, hn, by decide, m0, by omega⟩
theorem small_n' {n : Nat} (h : n ≤ 1000) : n < sizeLine := small1000 h
theorem small_n {n : Nat} (h : n ≤ 1000) : n ≤ sizeLine := Nat.le_of_lt (small1000 h)
inductive PlL (k : Nat) : List D → Prop
  | nil : PlL k []
  | cons {d : D} {ds : List D} (h : Pl k d) (t : PlL k ds) : PlL k (d :: ds)
theorem PlL.all {k : Nat} {ds : List D} (h : PlL k ds) : ∀ d, d ∈ ds → Pl k d := by
  induction h with
  | nil => exact fun d hd => (by cases hd)
  | cons h t ih => exact fun d hd => (List.mem_cons.mp hd).elim (fun e => e ▸ h) (ih d)
theorem Pl.ofL {k : Nat} {ds : List D} (h : PlL k ds) (hl : ds.length ≤ 100000) : Pl (k + 1) (.lst ds) := .lst h.all hl
theorem Pl.ofT {k : Nat} {ds : List D} (h : PlL k ds) (hl : ds.length ≤ 100000) : Pl (k + 1) (.tup ds) := .tup h.all hl
local macro_rules | `(tactic| walk_at "dl3") => `(tactic| first
  | (refine ⟨rfl, fun _ e => (by cases e <;> first | omega | decide), ?_⟩)
  | (refine ⟨small_n (Nat.le_of_ble_eq_true rfl), ?_⟩)
  | (refine ⟨_, _, _, rfl, rfl, ?_⟩)
  | (refine ⟨rfl, _, _, _, rfl, rfl, ?_⟩)
  | (refine ⟨rfl, _, _, rfl, rfl, (by decide), (by decide), ?_⟩)
  | (refine ⟨(show CPow _ _ from ⟨by decide, by decide, by decide⟩), ?_⟩)
  | (refine ⟨(show CMul _ _ from .inl ⟨by decide, by decide⟩), ?_⟩)
  | with_reducible refine et_yes ?_)
local macro_rules | `(tactic| walk_at "pl") => `(tactic| first
  | exact Pl.bl _ | exact Pl.int _ | exact Pl.str _ | exact Pl.non
  | refine Pl.ofL ?_ (Nat.le_of_ble_eq_true rfl) | refine Pl.ofT ?_ (Nat.le_of_ble_eq_true rfl)
  | exact PlL.nil | refine PlL.cons ?_ ?_)
local macro_rules | `(tactic| walk_at "dm") => `(tactic| repeat first | walk_at "dl1" | walk_at "dl4" | walk_at "dl2" | walk_at "dl3")
local macro_rules | `(tactic| walk_at "dl") => `(tactic| repeat first | walk_at "dl1" | walk_at "dl2" | walk_at "dl3")






def lettersL : List Nat := (("abcdefghijklmnopqrstuvwxyz" : Str).cps.toList)
theorem item_str {z : Str} {k : Nat} (hz : z.length ≤ 1000) (hk : k < z.length) : ∃ c, c ∈ z.cps.toList ∧ itemD (.str z) (.int (k : Int)) = some (.str ⟨#[c]⟩) := by
  have hk' : k < z.cps.toList.length := by rw [Array.length_toList]; exact hk
  refine ⟨z.cps.toList[k], List.getElem_mem _, ?_⟩
  show (if z.length ≤ sizeLine then (atI z.cps.toList (k : Int)).map fun c => D.str ⟨#[c]⟩ else none) = _
  rw [if_pos (by rw [sizeLine_eq]; omega), atI_nat (List.getElem?_eq_getElem hk')]
  rfl
theorem tl_str (cs : List Nat) : tl (⟨cs.toArray⟩ : Str) = cs := rfl
theorem joinL_nil : ∀ ps : List (List Nat), joinL [] ps = ps.flatten
  | [] => rfl
  | [p] => by simp [joinL]
  | p :: q :: r => by
    show p ++ ([] ++ joinL [] (q :: r)) = _
    rw [joinL_nil (q :: r)]
    simp
theorem join0 (ys : List Str) : tl (Txt.join "" ys) = (ys.map tl).flatten := by
  rw [join_eq, tl_join]
  exact joinL_nil _
theorem len_tl (z : Str) : z.length = (tl z).length := by rw [Array.length_toList]; rfl
theorem sum_one : ∀ cs : List Nat, ((cs.map fun c => (⟨#[c]⟩ : Str)).map (·.length)).sum = cs.length
  | [] => rfl
  | c :: cs => by
    rw [List.map_cons, List.map_cons, List.sum_cons, sum_one cs, List.length_cons]
    show 1 + cs.length = _
    omega
theorem flat_one : ∀ cs : List Nat, ((cs.map fun c => (⟨#[c]⟩ : Str)).map tl).flatten = cs
  | [] => rfl
  | c :: cs => by
    rw [List.map_cons, List.map_cons, List.flatten_cons, flat_one cs]
    rfl
def goodN (z : Str) : Prop := 1 ≤ z.length ∧ z.length ≤ 6 ∧ ∀ c, c ∈ tl z → c ∈ lettersL
theorem cut_lo (z : Str) (j : Nat) (hj : j ≤ z.length) : tl (L2.cutS z none (some (j : Int))) = (tl z).take j := by
  show ((tl z).drop (HT.sIx z.length 0 none)).take (HT.sIx z.length z.length (some (j : Int)) - HT.sIx z.length 0 none) = _
  rw [HT.sIx_none, HT.sIx_nat, List.drop_zero, Nat.sub_zero, Nat.min_eq_left hj]
theorem cut_hi (z : Str) (j : Nat) (hj : j ≤ z.length) : tl (L2.cutS z (some (j : Int)) none) = (tl z).drop j := by
  show ((tl z).drop (HT.sIx z.length 0 (some (j : Int)))).take (HT.sIx z.length z.length none - HT.sIx z.length 0 (some (j : Int))) = _
  rw [HT.sIx_none, HT.sIx_nat, Nat.min_eq_left hj]
  exact List.take_of_length_le (by rw [List.length_drop, ← len_tl]; omega)
/-- the word of the number k -/
def wordN (z : Str) (sp : Nat) (f k : Nat) : Str := L2.cutS z none (some (sp : Int)) ++ (⟨#[lettersL.getD ((f + 7 * k) % 26) 0]⟩ : Str) ++ L2.cutS z (some (sp : Int)) none
theorem tl_word (z : Str) (sp f k : Nat) (h : sp ≤ z.length) : tl (wordN z sp f k) = (tl z).take sp ++ [lettersL.getD ((f + 7 * k) % 26) 0] ++ (tl z).drop sp := by
  unfold wordN
  rw [tl_append, tl_append, cut_lo z sp h, cut_hi z sp h]
theorem let_len : lettersL.length = 26 := by decide
theorem let_item (k : Nat) (hk : k < 26) : itemD (.str "abcdefghijklmnopqrstuvwxyz") (.int (k : Int)) = some (.str ⟨#[lettersL.getD k 0]⟩) := by
  have hk' : k < lettersL.length := by rw [let_len]; exact hk
  show (if ("abcdefghijklmnopqrstuvwxyz" : Str).length ≤ sizeLine then (atI lettersL (k : Int)).map fun c => D.str ⟨#[c]⟩ else none) = _
  rw [if_pos (by rw [sizeLine_eq]; decide), atI_nat (List.getElem?_eq_getElem hk'), List.getD_eq_getElem?_getD, List.getElem?_eq_getElem hk']
  rfl
theorem let_mem : ∀ i, i < 26 → lettersL.getD i 0 ∈ lettersL := by decide
theorem let_inj : ∀ i, i < 26 → ∀ j, j < 26 → lettersL.getD i 0 = lettersL.getD j 0 → i = j := by decide
theorem word_good {z : Str} {sp f k : Nat} (h : sp ≤ z.length) (h5 : z.length ≤ 5) (hz : ∀ c, c ∈ tl z → c ∈ lettersL) : goodN (wordN z sp f k) := by
  have hl : (wordN z sp f k).length = z.length + 1 := by
    rw [len_tl, tl_word z sp f k h, List.length_append, List.length_append, List.length_take, List.length_drop, ← len_tl, Nat.min_eq_left h, List.length_singleton]
    all_goals omega
  refine ⟨by omega, by omega, fun c hc => ?_⟩
  rw [tl_word z sp f k h] at hc
  rcases List.mem_append.mp hc with hc | hc
  · rcases List.mem_append.mp hc with hc | hc
    · exact hz c (List.mem_of_mem_take hc)
    · rw [List.mem_singleton.mp hc]
      exact let_mem _ (Nat.mod_lt _ (by decide))
  · exact hz c (List.mem_of_mem_drop hc)
theorem word_inj {z : Str} {sp f i j : Nat} (h : sp ≤ z.length) (hi : i < 26) (hj : j < 26) (e : wordN z sp f i = wordN z sp f j) : i = j := by
  have e1 : tl (wordN z sp f i) = tl (wordN z sp f j) := by rw [e]
  rw [tl_word z sp f i h, tl_word z sp f j h] at e1
  have e2 := List.append_cancel_right e1
  have e3 := List.append_cancel_left e2
  have e4 := let_inj _ (Nat.mod_lt _ (by decide)) _ (Nat.mod_lt _ (by decide)) (List.cons.inj e3).1
  omega
theorem words_nodup {z : Str} {sp f : Nat} (h : sp ≤ z.length) {n : Nat} (hn : n ≤ 26) : ((List.range n).map (wordN z sp f)).Nodup := by
  refine List.pairwise_map.mpr (List.Pairwise.imp_of_mem (R := fun a b => a ≠ b) (fun {a b} ha hb hne e => hne (word_inj h (by have := List.mem_range.mp ha; omega) (by have := List.mem_range.mp hb; omega) e)) List.nodup_range)
def wordD (z : Str) (sp f : Nat) : D → D
  | .int i => .str (wordN z sp f i.toNat)
  | _ => .non
/-- n names, all unlike -/
def fWords : Bx → List D → (D → Prop) → Prop := fun B ds P => ∃ n : Nat, ds = [.obj B.b, .int (n : Int)] ∧ n ≤ 26 ∧ ∀ ws : List Str, ws.length = n → ws.Nodup → (∀ z, z ∈ ws → goodN z) → P (.lst (ws.map D.str))
theorem of_len : ∀ k : Nat, k < 5 → ∃ m : Nat, m ≤ 5 ∧ itemD (.lst [.int 0, .int 0, .int 1, .int 2, .int 5]) (.int (k : Int)) = some (.int (m : Int))
  | 0, _ => ⟨0, by decide, rfl⟩
  | 1, _ => ⟨0, by decide, rfl⟩
  | 2, _ => ⟨1, by decide, rfl⟩
  | 3, _ => ⟨2, by decide, rfl⟩
  | 4, _ => ⟨5, by decide, rfl⟩
  | n + 5, h => absurd h (by omega)
theorem ok__law_words {fd : FuncData} (F : Fun K "_law_words" "_law_words" s__law_words a__law_words fd) (T : Txt K mg a_copied a_as_items a_is_name a_is_number a_number_in a_is_test a_has_shape a_is_saying a_is_item a_sayings_in a_table_uses a_is_within_limits a_words_of a_word_at a_read_saying a_read_item a_read_test a_are_names a__law_box a__law_pull a__law_of a__law_words a__law_same a__law_field a__law_got a_OnceError a_InvalidNames a_InvalidSaying a_InvalidText a_Missing a_NothingLeft a_Question a_SHAPES a_TESTS t_DEEPEST_COPY t_LETTERS t_DIGITS t_LONGEST_NAME t_LONGEST_NUMBER t_MOST_FORMS t_MOST_DEEP t_MOST_SCOPE t_MOST_BOUND t_MOST_NAMES) (C__law_pull : Cal P w K mg base 1 a__law_pull ["_law_box_here", "_law_many"] (SpD K 2 fPull)) (C__law_of : Cal P w K mg base 2 a__law_of ["_law_box_here", "_law_some"] (SpD K 2 fOf)) : FnOk P w K mg base CX0 3 a__law_words fd ["_law_box_here", "_law_many"] (SpD K 2 fWords) := by
  obtain ⟨fd__law_pull, G__law_pull, kp__law_pull, b__law_pull⟩ := C__law_pull.ex
  obtain ⟨fd__law_of, G__law_of, kp__law_of, b__law_of⟩ := C__law_of.ex
  refine F.ok sc__law_words (fun vs H Q E h => h.1) (fun cdv A outer s H vs Q E hr h => ?_)
  obtain ⟨hl, B, M, ds, Pd, g, hd, ⟨n, rfl, hn, p⟩, q⟩ := h
  refine ⟨_, (pss_cons (ps_set (i := 2) sc__law_words.nd rfl (Or.inr rfl) pe_str)
 (pss_cons (ps_set (i := 3) sc__law_words.nd rfl (Or.inr rfl) (pe_join pe_str (pe_lc (own := [("_law_k", 6)]) (g := (gName 6)) (tt := tYes) (by rfl) sc__law_words.nd (pi_range1 (by rfl) T.n_range (pa_cons (pe_call G__law_of (hr.mono (by omega)) (by rfl) T.m__law_of kp__law_of b__law_of .nil pass0 (pa_cons (pv 0) (pa_cons (pe_lst (pa_cons pe_int (pa_cons pe_int (pa_cons pe_int (pa_cons pe_int (pa_cons pe_int pa_nil)))))) pa_nil))) pa_nil)) (blkOk_by (own := [("_law_k", 6)]) (N := N__law_words) (sc := defScope s__law_words) (by decide +kernel)) (fun _ _ _ _ _ => (pg_name (i := 6) sc__law_words.nd rfl (Or.inl rfl))) (fun _ _ _ _ _ => pts_nil) (fun _ _ _ _ _ => (pe_call G__law_of (hr.mono (by omega)) (by rfl) T.m__law_of kp__law_of b__law_of .nil pass0 (pa_cons (pv 0) (pa_cons (pv 2) pa_nil)))))))
 (pss_cons (ps_asg (pe_tup (pa_cons (pe_call G__law_pull (hr.mono (by omega)) (by rfl) T.m__law_pull kp__law_pull b__law_pull .nil pass0 (pa_cons (pv 0) (pa_cons (pe_op op_add (pe_callB call_len (by rfl) T.n_len PySem.boot_len (pa_cons (pv 3) pa_nil)) pe_int) pa_nil))) (pa_cons (pe_call G__law_pull (hr.mono (by omega)) (by rfl) T.m__law_pull kp__law_pull b__law_pull .nil pass0 (pa_cons (pv 0) (pa_cons pe_int pa_nil))) pa_nil))) (pg_tup rfl (pgs_cons (pg_name (i := 4) sc__law_words.nd rfl (Or.inr rfl)) (pgs_cons (pg_name (i := 5) sc__law_words.nd rfl (Or.inr rfl)) pgs_nil))))
 (pss_one (ps_ret (pe_lc (own := [("_law_k", 6)]) (g := (gName 6)) (tt := tYes) (by rfl) sc__law_words.nd (pi_range1 (by rfl) T.n_range (pa_cons (pv 1) pa_nil)) (blkOk_by (own := [("_law_k", 6)]) (N := N__law_words) (sc := defScope s__law_words) (by decide +kernel)) (fun _ _ _ _ _ => (pg_name (i := 6) sc__law_words.nd rfl (Or.inl rfl))) (fun _ _ _ _ _ => pts_nil) (fun _ _ _ _ _ => (pe_op op_add_str (pe_op op_add_str (pe_slice sl_str (pv 3) po_none (po_some (pv 4))) (pe_ix (ix_seqK K) (pv 2) (pe_op op_mod (pe_callTy call_int1 (by rfl) T.n_int (by decide +kernel) (pa_cons (pe_op op_add (pv 5) (pe_op op_mul pe_int (pv 6))) pa_nil)) pe_int) (fun _ _ => rfl))) (pe_slice sl_str (pv 3) (po_some (pv 4)) po_none))))))))), ?_⟩
  refine run_body g hd q ?_
  try dsimp only [cxOf]
  walk_at "dm"
  refine ev_lc (ei_rng1 (ea_cons (ev_call ?_)))
  walk_at "dm"
  refine fun k hk => ?_
  obtain ⟨m, hm, he⟩ := of_len k hk
  refine ⟨_, he, ea_nil ⟨_, rfl, by omega, by omega, by rw [rangeD_len, sizeLine_eq]; omega, fun i acc => ∃ cs : List Nat, acc = cs.map (fun c => D.str ⟨#[c]⟩) ∧ cs.length = i ∧ ∀ c, c ∈ cs → c ∈ lettersL, ⟨[], rfl, rfl, fun _ h => by cases h⟩, fun i d2 acc hd2 hI _ => ?_, fun acc hI _ => ?_⟩⟩
  · obtain ⟨cs, rfl, hcl, hcs⟩ := hI
    refine eg_name (by decide) ?_
    walk_at "dm"
    refine fun k2 hk2 => ?_
    obtain ⟨c, hc, he2⟩ := item_str (z := "abcdefghijklmnopqrstuvwxyz") (k := k2) (by decide) hk2
    refine ⟨_, he2, cs ++ [c], by rw [List.map_append]; rfl, by rw [List.length_append, hcl]; rfl, fun c' hc' => ?_⟩
    rcases List.mem_append.mp hc' with h | h
    · exact hcs c' h
    · rw [List.mem_singleton.mp h]
      exact hc
  · rw [rangeD_len] at hI
    obtain ⟨cs, rfl, hcl, hcs⟩ := hI
    refine ⟨cs.map fun c => ⟨#[c]⟩, .inl (by rw [List.map_map]; rfl), ?_, ?_⟩
    · rw [sum_one, List.length_map]
      show cs.length + cs.length * 0 ≤ 16777216
      omega
    have hz : tl (Txt.join "" (cs.map fun c => (⟨#[c]⟩ : Str))) = cs := by rw [join0, flat_one]
    have hzc : ∀ c, c ∈ tl (Txt.join "" (cs.map fun c => (⟨#[c]⟩ : Str))) → c ∈ lettersL := fun c hc => hcs c (by rw [hz] at hc; exact hc)
    have hzl : (Txt.join "" (cs.map fun c => (⟨#[c]⟩ : Str))).length ≤ 5 := by rw [len_tl, hz, hcl]; omega
    clear hz
    generalize Txt.join "" (cs.map fun c => (⟨#[c]⟩ : Str)) = z at hzc hzl
    walk_at "dm"
    refine rn_asg [4, 5] (ev_tup ?_)
    walk_at "dm"
    refine ⟨_, _, rfl, lenD_str (by omega), ?_⟩
    walk_at "dm"
    refine ⟨by omega, by omega, fun sp sp0 sp1 => ?_⟩
    walk_at "dm"
    refine ⟨by decide, by decide, fun f f0 f1 => ?_⟩
    walk_at "dm"
    obtain ⟨sp, rfl⟩ : ∃ j : Nat, sp = (j : Int) := ⟨sp.toNat, by omega⟩
    obtain ⟨f, rfl⟩ : ∃ j : Nat, f = (j : Int) := ⟨f.toNat, by omega⟩
    have hsp : sp ≤ z.length := by omega
    refine eg_pair (by decide) (by decide) ?_
    refine rn_ret (ev_lc_map (ei_rng1 (ea_cons (ev_var rfl (ea_nil ⟨_, rfl, by omega, by omega, ?_, wordD z sp f, fun d hd => ?_, ?_⟩)))))
    · rw [rangeD_len, sizeLine_eq]; omega
    · obtain ⟨i, hi, rfl⟩ := List.mem_map.mp hd
      have hi := List.mem_range.mp hi
      refine eg_name (by decide) ?_
      walk_at "dm"
      refine ⟨small_n (by omega), ?_⟩
      walk_at "dm"
      refine ⟨by decide, ?_⟩
      have e : ((f : Int) + 7 * (0 + (i : Int))) % 26 = (((f + 7 * i) % 26 : Nat) : Int) := by omega
      have hu := cutS_length z none (some (sp : Int))
      have hv := cutS_length z (some (sp : Int)) none
      refine ⟨_, by rw [e]; exact let_item _ (Nat.mod_lt _ (by decide)), ?_⟩
      refine ⟨_, _, rfl, rfl, small_n (by show _ + 1 ≤ 1000; omega), ?_⟩
      walk_at "dm"
      refine ⟨small_n (by omega), ?_⟩
      walk_at "dm"
      refine ⟨small_n ?_, ?_⟩
      · rw [len_tl, tl_append, List.length_append, ← len_tl]
        show _ + 1 + _ ≤ 1000
        omega
      · show _ = D.str (wordN z sp f ((0 : Int) + (i : Int)).toNat)
        rw [Int.zero_add, Int.toNat_natCast]
        rfl
    · have e : (rangeD 0 (n : Int).toNat).map (wordD z sp f) = ((List.range n).map (wordN z sp f)).map D.str := by
        unfold rangeD
        rw [List.map_map, List.map_map, Int.toNat_natCast]
        refine List.map_congr_left fun i _ => ?_
        show D.str (wordN z sp f ((0 : Int) + (i : Int)).toNat) = D.str (wordN z sp f i)
        rw [Int.zero_add, Int.toNat_natCast]
      rw [e]
      exact p _ (by rw [List.length_map, List.length_range]) (words_nodup hsp hn) fun y hy => by
        obtain ⟨i, _, rfl⟩ := List.mem_map.mp hy
        exact word_good hsp hzl hzc

end
end KL

set_option maxHeartbeats 4000000
namespace KL
open PySem PySem.Spec PyProof.Rows L2 RZ XE TL DL RD RE XA XB XC XD XK
local macro_rules | `(tactic| walk_at "dl1") => `(tactic| first
  | with_reducible refine rn_seq ?_
  | with_reducible refine rn_if ?_
  | with_reducible refine rn_ret ?_
  | with_reducible refine rn_set ?_
  | with_reducible refine rn_drop ?_
  | with_reducible refine rn_next ?_
  | with_reducible refine et_test ?_
  | with_reducible refine et_B ?_
  | with_reducible refine et_not ?_
  | with_reducible refine et_and ?_
  | with_reducible refine et_or ?_
  | ((with_reducible refine' ev_var ?k1 ?_); (case k1 => exact rfl))
  | with_reducible refine ev_int ?_
  | with_reducible refine ev_str ?_
  | with_reducible refine ev_bl ?_
  | with_reducible refine ev_non ?_
  | with_reducible refine ev_ty ?_
  | with_reducible refine ea_nil ?_
  | with_reducible refine ea_cons ?_
  | with_reducible refine ev_andV ?_
  | with_reducible refine ev_orV ?_
  | with_reducible refine ev_notV ?_
  | with_reducible refine ev_chain ?_
  | with_reducible refine ev_len ?_
  | with_reducible refine ev_all ?_
  | with_reducible refine ev_join ?_
  | with_reducible refine ev_I0 ?_
  | with_reducible refine ev_B0 ?_
  | with_reducible refine ev_I ?_
  | with_reducible refine ev_eq ?_
  | with_reducible refine ev_ne ?_
  | with_reducible refine ev_isN ?_
  | with_reducible refine ev_notN ?_
  | with_reducible refine ev_tup ?_
  | with_reducible refine ev_lst ?_
  | with_reducible refine ev_ix ?_
  | with_reducible refine ev_cat ?_
  | with_reducible refine ev_rep ?_
  | with_reducible refine ev_mulS ?_
  | with_reducible refine ev_add_str ?_
  | with_reducible refine ev_slS ?_
  | with_reducible refine ev_slL ?_
  | with_reducible refine eo_none ?_
  | with_reducible refine eo_some ?_
  | with_reducible refine ev_in_sign ?_
  | with_reducible refine ev_is ?_
  | refine ev_is2 (m := .list) (m' := .tuple) ?_
  | with_reducible refine ev_call ?_)
local macro_rules | `(tactic| walk_at "dl2") => `(tactic| first
  | (refine ⟨_, rfl, ?_⟩; done)
  | (with_reducible refine ⟨_, rfl, ?_⟩)
  | (with_reducible refine ⟨_, _, rfl, rfl, ?_⟩)
  | (refine ⟨_, .str, rfl, rfl, ?_⟩)
  | (refine ⟨_, .int, rfl, rfl, ?_⟩)
  | (refine ⟨_, .bool, rfl, rfl, ?_⟩)
  | (refine ⟨_, .list, rfl, rfl, ?_⟩)
  | (refine ⟨_, .tuple, rfl, rfl, ?_⟩)
  | (refine ⟨rfl, _, rfl, ?_⟩)
  | (refine iT rfl ?_)
  | (refine iF rfl ?_))
local macro_rules | `(tactic| walk_at "dl4") => `(tactic| first
  | with_reducible refine ev_tupleOf ?_
  | with_reducible refine rn_par ?_
  | with_reducible refine ev_ifE ?_
  | with_reducible refine ev_strA ?_
  | with_reducible refine ev_neg ?_
  | with_reducible refine ev_fmt ?_
  | with_reducible refine ev_split ?_
  | with_reducible refine ev_eqP ?_
  | with_reducible refine ev_neP ?_
  | with_reducible refine ev_kin ?_
  | with_reducible refine ev_kix ?_
  | with_reducible refine ea_star ?_
  | with_reducible refine ev_inS ?_
  | with_reducible refine rw_next ?_
  | (with_reducible refine rw_seq ?_)
  | with_reducible refine rw_ret ?_
  | with_reducible refine ev_fld ?_
  | with_reducible refine ev_slT ?_
  | with_reducible refine ev_neg ?_
  | with_reducible refine ev_int1 ?_
  | with_reducible refine ev_dget ?_
  | with_reducible refine ev_catT ?_
  | with_reducible refine rn_par3 ?_
  | with_reducible refine ev_ref ?_)
local macro_rules | `(tactic| walk_at "dn") => `(tactic| repeat first | walk_at "dl1" | walk_at "dl4" | walk_at "dl2")
local macro_rules | `(tactic| walk_at "dl3") => `(tactic| first
  | (refine ⟨rfl, fun _ e => (by cases e <;> first | omega | decide), ?_⟩)
  | (refine ⟨small_n (Nat.le_of_ble_eq_true rfl), ?_⟩)
  | (refine ⟨_, _, _, rfl, rfl, ?_⟩)
  | (refine ⟨rfl, _, _, _, rfl, rfl, ?_⟩)
  | (refine ⟨rfl, _, _, rfl, rfl, (by decide), (by decide), ?_⟩)
  | (refine ⟨(show CPow _ _ from ⟨by decide, by decide, by decide⟩), ?_⟩)
  | (refine ⟨(show CMul _ _ from .inl ⟨by decide, by decide⟩), ?_⟩)
  | with_reducible refine et_yes ?_)
local macro_rules | `(tactic| walk_at "pl") => `(tactic| first
  | exact Pl.bl _ | exact Pl.int _ | exact Pl.str _ | exact Pl.non
  | refine Pl.ofL ?_ (Nat.le_of_ble_eq_true rfl) | refine Pl.ofT ?_ (Nat.le_of_ble_eq_true rfl)
  | exact PlL.nil | refine PlL.cons ?_ ?_)
local macro_rules | `(tactic| walk_at "dm") => `(tactic| repeat first | walk_at "dl1" | walk_at "dl4" | walk_at "dl2" | walk_at "dl3")
local macro_rules | `(tactic| walk_at "dl") => `(tactic| repeat first | walk_at "dl1" | walk_at "dl2" | walk_at "dl3")
section
variable {P : Program} {w : World} {K : PySem.W.Frag} {mg : Str → Option Value} {base : Heap} {a_copied : Addr} {a_as_items : Addr} {a_is_name : Addr} {a_is_number : Addr} {a_number_in : Addr} {a_is_test : Addr} {a_has_shape : Addr} {a_is_saying : Addr} {a_is_item : Addr} {a_sayings_in : Addr} {a_table_uses : Addr} {a_is_within_limits : Addr} {a_words_of : Addr} {a_word_at : Addr} {a_read_saying : Addr} {a_read_item : Addr} {a_read_test : Addr} {a_are_names : Addr} {a__law_box : Addr} {a__law_pull : Addr} {a__law_of : Addr} {a__law_words : Addr} {a__law_same : Addr} {a__law_field : Addr} {a__law_got : Addr} {a_OnceError : Addr} {a_InvalidNames : Addr} {a_InvalidSaying : Addr} {a_InvalidText : Addr} {a_Missing : Addr} {a_NothingLeft : Addr} {a_Question : Addr} {a_SHAPES : Addr} {a_TESTS : Addr} {t_DEEPEST_COPY : Tok} {t_LETTERS : Tok} {t_DIGITS : Tok} {t_LONGEST_NAME : Tok} {t_LONGEST_NUMBER : Tok} {t_MOST_FORMS : Tok} {t_MOST_DEEP : Tok} {t_MOST_SCOPE : Tok} {t_MOST_BOUND : Tok} {t_MOST_NAMES : Tok} 

def isNameS (z : Str) : Bool := decide (1 ≤ z.length) && decide (z.length ≤ 6) && z.cps.toList.all fun c => decide (c ∈ lettersL)
/-! ### rows of any kind -/
/-- a value that a test may look at: no object, no long text -/
def OkV (d : D) : Prop := (∃ n, tyD d = some n) ∧ ∀ z, d = .str z → z.length ≤ 1000
def nameD : D → Bool
  | .str z => isNameS z
  | _ => false
def fIsNm : Bx → List D → (D → Prop) → Prop := fun _ ds P => ∃ d, ds = [d] ∧ OkV d ∧ P (.bl (nameD d))
def chB : D → Bool
  | .str x => x.cps.toList.all fun c => decide (c ∈ lettersL)
  | _ => false
theorem chB_all (z : Str) : ((charsD z).map chB).all id = z.cps.toList.all fun c => decide (c ∈ lettersL) := by
  unfold charsD
  rw [List.map_map, List.all_map]
  congr 1
  funext c
  show ([c].all fun c => decide (c ∈ lettersL)) = _
  rw [List.all_cons, List.all_nil, Bool.and_true]
theorem ok_is_nm {fd : FuncData} (F : Fun K "is_name" "is_name" s_is_name a_is_name fd) (T : Txt K mg a_copied a_as_items a_is_name a_is_number a_number_in a_is_test a_has_shape a_is_saying a_is_item a_sayings_in a_table_uses a_is_within_limits a_words_of a_word_at a_read_saying a_read_item a_read_test a_are_names a__law_box a__law_pull a__law_of a__law_words a__law_same a__law_field a__law_got a_OnceError a_InvalidNames a_InvalidSaying a_InvalidText a_Missing a_NothingLeft a_Question a_SHAPES a_TESTS t_DEEPEST_COPY t_LETTERS t_DIGITS t_LONGEST_NAME t_LONGEST_NUMBER t_MOST_FORMS t_MOST_DEEP t_MOST_SCOPE t_MOST_BOUND t_MOST_NAMES) : FnOk P w K mg base CX0 1 a_is_name fd ["value"] (SpD K 1 fIsNm) := by
  refine F.ok sc_is_name (fun vs H Q E h => h.1) (fun cdv A outer s H vs Q E hr h => ?_)
  obtain ⟨hl, B, M, ds, Pd, g, hd, ⟨d, rfl, ⟨⟨n, hn⟩, hz⟩, p⟩, q⟩ := h
  refine ⟨_, (pss_cons (ps_if (PW.pt (pw_or (pt_not (pt_val (pe_callB call_isi (by rfl) T.n_isinstance (by decide +kernel) (pa_cons (pv 0) (pa_cons (pe_bltn (v := .ty "str") (u := .type "str") (by rfl) T.n_str (by decide +kernel) rfl) pa_nil))))) (pw_or1 (pt_not (pt_chain op_le op_le pe_int (pe_callB call_len (by rfl) T.n_len PySem.boot_len (pa_cons (pv 0) pa_nil)) (pe_glob (v := .int 6) (by rfl) T.c_LONGEST_NAME ⟨_, rfl⟩))))))
 (pss_one (ps_ret pe_bl))
 pss_nil)
 (pss_one (ps_ret (pe_callB (cr_all rfl) (by rfl) T.n_all (by decide +kernel) (pa_cons (pe_lc (own := [("letter", 1)]) (g := (gName 1)) (tt := tYes) (by rfl) sc_is_name.nd (pi_str (pv 0)) (blkOk_by (own := [("letter", 1)]) (N := N_is_name) (sc := defScope s_is_name) (by decide +kernel)) (fun _ _ _ _ _ => (pg_name (i := 1) sc_is_name.nd rfl (Or.inl rfl))) (fun _ _ _ _ _ => pts_nil) (fun _ _ _ _ _ => (pe_cmpR op_in_sign (pv 1) (pe_glob (v := .str "abcdefghijklmnopqrstuvwxyz") (by rfl) T.c_LETTERS ⟨_, rfl⟩) rfl))) pa_nil))))), ?_⟩
  refine run_body g hd q ?_
  try dsimp only [cxOf]
  cases d with
  | str z =>
    have zl := hz z rfl
    have p : Pd (.bl (decide (1 ≤ z.length) && decide (z.length ≤ 6) && z.cps.toList.all fun c => decide (c ∈ lettersL))) := p
    walk_at "dn"
    refine ⟨_, _, rfl, lenD_str (by omega), ⟨_, ch_int, ?_⟩⟩
    refine i2 (fun c1 => ?_) (fun c1 => ?_)
    · have c1 : 1 ≤ z.length := by have := of_decide_eq_true c1; omega
      walk_at "dn"
      refine ⟨_, ch_int, ⟨_, rfl, ?_⟩⟩
      refine i2 (fun c2 => ?_) (fun c2 => ?_)
      · have c2 : ¬ z.length ≤ 6 := by simp at c2; omega
        rw [decide_eq_false c2, Bool.and_false, Bool.false_and] at p
        walk_at "dn"
        exact p
      have c2 : z.length ≤ 6 := by simp at c2; omega
      rw [decide_eq_true c1, decide_eq_true c2, Bool.true_and, Bool.true_and] at p
      walk_at "dn"
      refine ev_lc_map (ei_str (ev_var rfl ⟨z, rfl, ?_, fun d => .bl (chB d), fun d hd => ?_, ?_⟩))
      · rw [charsD_len, sizeLine_eq]; omega
      · obtain ⟨c, hc, rfl⟩ := mem_charsD hd
        refine eg_name (by decide) ?_
        walk_at "dn"
        show D.bl (decide (c ∈ lettersL)) = D.bl ([c].all fun c => decide (c ∈ lettersL))
        rw [List.all_cons, List.all_nil, Bool.and_true]
      · walk_at "dn"
        refine ⟨(charsD z).map chB, ?_, ?_⟩
        · rw [List.map_map]; rfl
        · rw [chB_all]; exact p
    · have c1 : ¬ 1 ≤ z.length := by have := of_decide_eq_false c1; omega
      rw [decide_eq_false c1, Bool.false_and, Bool.false_and] at p
      walk_at "dn"
      exact p
  | int i => walk_at "dn"; exact p
  | non => walk_at "dn"; exact p
  | bl b => walk_at "dn"; exact p
  | lst ds => walk_at "dn"; exact p
  | tup ds => walk_at "dn"; exact p
  | _ => cases hn
end
end KL

set_option maxHeartbeats 4000000
namespace KL
open PySem PySem.Spec PyProof.Rows L2 RZ XE TL DL RD RE XA XB XC XD XK
local macro_rules | `(tactic| walk_at "dl1") => `(tactic| first
  | with_reducible refine rn_seq ?_
  | with_reducible refine rn_if ?_
  | with_reducible refine rn_ret ?_
  | with_reducible refine rn_set ?_
  | with_reducible refine rn_drop ?_
  | with_reducible refine rn_next ?_
  | with_reducible refine et_test ?_
  | with_reducible refine et_B ?_
  | with_reducible refine et_not ?_
  | with_reducible refine et_and ?_
  | with_reducible refine et_or ?_
  | ((with_reducible refine' ev_var ?k1 ?_); (case k1 => exact rfl))
  | with_reducible refine ev_int ?_
  | with_reducible refine ev_str ?_
  | with_reducible refine ev_bl ?_
  | with_reducible refine ev_non ?_
  | with_reducible refine ev_ty ?_
  | with_reducible refine ea_nil ?_
  | with_reducible refine ea_cons ?_
  | with_reducible refine ev_andV ?_
  | with_reducible refine ev_orV ?_
  | with_reducible refine ev_notV ?_
  | with_reducible refine ev_chain ?_
  | with_reducible refine ev_len ?_
  | with_reducible refine ev_all ?_
  | with_reducible refine ev_join ?_
  | with_reducible refine ev_I0 ?_
  | with_reducible refine ev_B0 ?_
  | with_reducible refine ev_I ?_
  | with_reducible refine ev_eq ?_
  | with_reducible refine ev_ne ?_
  | with_reducible refine ev_isN ?_
  | with_reducible refine ev_notN ?_
  | with_reducible refine ev_tup ?_
  | with_reducible refine ev_lst ?_
  | with_reducible refine ev_ix ?_
  | with_reducible refine ev_cat ?_
  | with_reducible refine ev_rep ?_
  | with_reducible refine ev_mulS ?_
  | with_reducible refine ev_add_str ?_
  | with_reducible refine ev_slS ?_
  | with_reducible refine ev_slL ?_
  | with_reducible refine eo_none ?_
  | with_reducible refine eo_some ?_
  | with_reducible refine ev_in_sign ?_
  | with_reducible refine ev_is ?_
  | refine ev_is2 (m := .list) (m' := .tuple) ?_
  | with_reducible refine ev_call ?_)
local macro_rules | `(tactic| walk_at "dl2") => `(tactic| first
  | (refine ⟨_, rfl, ?_⟩; done)
  | (with_reducible refine ⟨_, rfl, ?_⟩)
  | (with_reducible refine ⟨_, _, rfl, rfl, ?_⟩)
  | (refine ⟨_, .str, rfl, rfl, ?_⟩)
  | (refine ⟨_, .int, rfl, rfl, ?_⟩)
  | (refine ⟨_, .bool, rfl, rfl, ?_⟩)
  | (refine ⟨_, .list, rfl, rfl, ?_⟩)
  | (refine ⟨_, .tuple, rfl, rfl, ?_⟩)
  | (refine ⟨rfl, _, rfl, ?_⟩)
  | (refine iT rfl ?_)
  | (refine iF rfl ?_))
local macro_rules | `(tactic| walk_at "dl4") => `(tactic| first
  | with_reducible refine ev_tupleOf ?_
  | with_reducible refine rn_par ?_
  | with_reducible refine ev_ifE ?_
  | with_reducible refine ev_strA ?_
  | with_reducible refine ev_neg ?_
  | with_reducible refine ev_fmt ?_
  | with_reducible refine ev_split ?_
  | with_reducible refine ev_eqP ?_
  | with_reducible refine ev_neP ?_
  | with_reducible refine ev_kin ?_
  | with_reducible refine ev_kix ?_
  | with_reducible refine ea_star ?_
  | with_reducible refine ev_inS ?_
  | with_reducible refine rw_next ?_
  | (with_reducible refine rw_seq ?_)
  | with_reducible refine rw_ret ?_
  | with_reducible refine ev_fld ?_
  | with_reducible refine ev_slT ?_
  | with_reducible refine ev_neg ?_
  | with_reducible refine ev_int1 ?_
  | with_reducible refine ev_dget ?_
  | with_reducible refine ev_catT ?_
  | with_reducible refine rn_par3 ?_
  | with_reducible refine ev_ref ?_)
local macro_rules | `(tactic| walk_at "dn") => `(tactic| repeat first | walk_at "dl1" | walk_at "dl4" | walk_at "dl2")
local macro_rules | `(tactic| walk_at "dl3") => `(tactic| first
  | (refine ⟨rfl, fun _ e => (by cases e <;> first | omega | decide), ?_⟩)
  | (refine ⟨small_n (Nat.le_of_ble_eq_true rfl), ?_⟩)
  | (refine ⟨_, _, _, rfl, rfl, ?_⟩)
  | (refine ⟨rfl, _, _, _, rfl, rfl, ?_⟩)
  | (refine ⟨rfl, _, _, rfl, rfl, (by decide), (by decide), ?_⟩)
  | (refine ⟨(show CPow _ _ from ⟨by decide, by decide, by decide⟩), ?_⟩)
  | (refine ⟨(show CMul _ _ from .inl ⟨by decide, by decide⟩), ?_⟩)
  | with_reducible refine et_yes ?_)
local macro_rules | `(tactic| walk_at "pl") => `(tactic| first
  | exact Pl.bl _ | exact Pl.int _ | exact Pl.str _ | exact Pl.non
  | refine Pl.ofL ?_ (Nat.le_of_ble_eq_true rfl) | refine Pl.ofT ?_ (Nat.le_of_ble_eq_true rfl)
  | exact PlL.nil | refine PlL.cons ?_ ?_)
local macro_rules | `(tactic| walk_at "dm") => `(tactic| repeat first | walk_at "dl1" | walk_at "dl4" | walk_at "dl2" | walk_at "dl3")
local macro_rules | `(tactic| walk_at "dl") => `(tactic| repeat first | walk_at "dl1" | walk_at "dl2" | walk_at "dl3")
section
variable {P : Program} {w : World} {K : PySem.W.Frag} {mg : Str → Option Value} {base : Heap} {a_copied : Addr} {a_as_items : Addr} {a_is_name : Addr} {a_is_number : Addr} {a_number_in : Addr} {a_is_test : Addr} {a_has_shape : Addr} {a_is_saying : Addr} {a_is_item : Addr} {a_sayings_in : Addr} {a_table_uses : Addr} {a_is_within_limits : Addr} {a_words_of : Addr} {a_word_at : Addr} {a_read_saying : Addr} {a_read_item : Addr} {a_read_test : Addr} {a_are_names : Addr} {a__law_box : Addr} {a__law_pull : Addr} {a__law_of : Addr} {a__law_words : Addr} {a__law_same : Addr} {a__law_field : Addr} {a__law_got : Addr} {a_OnceError : Addr} {a_InvalidNames : Addr} {a_InvalidSaying : Addr} {a_InvalidText : Addr} {a_Missing : Addr} {a_NothingLeft : Addr} {a_Question : Addr} {a_SHAPES : Addr} {a_TESTS : Addr} {t_DEEPEST_COPY : Tok} {t_LETTERS : Tok} {t_DIGITS : Tok} {t_LONGEST_NAME : Tok} {t_LONGEST_NUMBER : Tok} {t_MOST_FORMS : Tok} {t_MOST_DEEP : Tok} {t_MOST_SCOPE : Tok} {t_MOST_BOUND : Tok} {t_MOST_NAMES : Tok} 

/-- a whole number within its bounds, of anything -/
def numD : D → Int → Int → Bool
  | .int i, lo, hi => decide (lo ≤ i) && decide (i ≤ hi)
  | _, _, _ => false
def fIsNum : Bx → List D → (D → Prop) → Prop := fun _ ds P => ∃ (d : D) (lo hi : Int), ds = [d, .int lo, .int hi] ∧ (∃ n, tyD d = some n) ∧ P (.bl (numD d lo hi))
theorem ok_is_num {fd : FuncData} (F : Fun K "is_number" "is_number" s_is_number a_is_number fd) (T : Txt K mg a_copied a_as_items a_is_name a_is_number a_number_in a_is_test a_has_shape a_is_saying a_is_item a_sayings_in a_table_uses a_is_within_limits a_words_of a_word_at a_read_saying a_read_item a_read_test a_are_names a__law_box a__law_pull a__law_of a__law_words a__law_same a__law_field a__law_got a_OnceError a_InvalidNames a_InvalidSaying a_InvalidText a_Missing a_NothingLeft a_Question a_SHAPES a_TESTS t_DEEPEST_COPY t_LETTERS t_DIGITS t_LONGEST_NAME t_LONGEST_NUMBER t_MOST_FORMS t_MOST_DEEP t_MOST_SCOPE t_MOST_BOUND t_MOST_NAMES) : FnOk P w K mg base CX0 1 a_is_number fd ["value", "least", "most"] (SpD K 3 fIsNum) := by
  refine F.ok sc_is_number (fun vs H Q E h => h.1) (fun cdv A outer s H vs Q E hr h => ?_)
  obtain ⟨hl, B, M, ds, Pd, g, hd, ⟨d, lo, hi, rfl, ⟨n, hn⟩, p⟩, q⟩ := h
  refine ⟨_, (pss_one (ps_ret (pe_and (pe_callB call_isi (by rfl) T.n_isinstance (by decide +kernel) (pa_cons (pv 0) (pa_cons (pe_bltn (v := .ty "int") (u := .type "int") (by rfl) T.n_int (by decide +kernel) rfl) pa_nil))) (pe_and (pe_not (pe_callB call_isi (by rfl) T.n_isinstance (by decide +kernel) (pa_cons (pv 0) (pa_cons (pe_bltn (v := .ty "bool") (u := .type "bool") (by rfl) T.n_bool (by decide +kernel) rfl) pa_nil)))) (pe_one (pe_chain op_le op_le (pv 1) (pv 0) (pv 2))))))), ?_⟩
  refine run_body g hd q ?_
  try dsimp only [cxOf]
  cases d with
  | int i =>
    have p : Pd (.bl (decide (lo ≤ i) && decide (i ≤ hi))) := p
    walk_at "dn"
    refine ⟨_, ch_int, ?_⟩
    refine i2 (fun c1 => ?_) (fun c1 => ?_)
    · walk_at "dn"
      refine ⟨_, ch_int, ?_⟩
      rw [c1] at p
      exact p
    · rw [c1] at p
      exact p
  | non => walk_at "dn"; exact p
  | bl b => walk_at "dn"; exact p
  | str z => walk_at "dn"; exact p
  | lst ds => walk_at "dn"; exact p
  | tup ds => walk_at "dn"; exact p
  | _ => cases hn
end
end KL

set_option maxHeartbeats 4000000
namespace KL
open PySem PySem.Spec PyProof.Rows L2 RZ XE TL DL RD RE XA XB XC XD XK
local macro_rules | `(tactic| walk_at "dl1") => `(tactic| first
  | with_reducible refine rn_seq ?_
  | with_reducible refine rn_if ?_
  | with_reducible refine rn_ret ?_
  | with_reducible refine rn_set ?_
  | with_reducible refine rn_drop ?_
  | with_reducible refine rn_next ?_
  | with_reducible refine et_test ?_
  | with_reducible refine et_B ?_
  | with_reducible refine et_not ?_
  | with_reducible refine et_and ?_
  | with_reducible refine et_or ?_
  | ((with_reducible refine' ev_var ?k1 ?_); (case k1 => exact rfl))
  | with_reducible refine ev_int ?_
  | with_reducible refine ev_str ?_
  | with_reducible refine ev_bl ?_
  | with_reducible refine ev_non ?_
  | with_reducible refine ev_ty ?_
  | with_reducible refine ea_nil ?_
  | with_reducible refine ea_cons ?_
  | with_reducible refine ev_andV ?_
  | with_reducible refine ev_orV ?_
  | with_reducible refine ev_notV ?_
  | with_reducible refine ev_chain ?_
  | with_reducible refine ev_len ?_
  | with_reducible refine ev_all ?_
  | with_reducible refine ev_join ?_
  | with_reducible refine ev_I0 ?_
  | with_reducible refine ev_B0 ?_
  | with_reducible refine ev_I ?_
  | with_reducible refine ev_eq ?_
  | with_reducible refine ev_ne ?_
  | with_reducible refine ev_isN ?_
  | with_reducible refine ev_notN ?_
  | with_reducible refine ev_tup ?_
  | with_reducible refine ev_lst ?_
  | with_reducible refine ev_ix ?_
  | with_reducible refine ev_cat ?_
  | with_reducible refine ev_rep ?_
  | with_reducible refine ev_mulS ?_
  | with_reducible refine ev_add_str ?_
  | with_reducible refine ev_slS ?_
  | with_reducible refine ev_slL ?_
  | with_reducible refine eo_none ?_
  | with_reducible refine eo_some ?_
  | with_reducible refine ev_in_sign ?_
  | with_reducible refine ev_is ?_
  | refine ev_is2 (m := .list) (m' := .tuple) ?_
  | with_reducible refine ev_call ?_)
local macro_rules | `(tactic| walk_at "dl2") => `(tactic| first
  | (refine ⟨_, rfl, ?_⟩; done)
  | (with_reducible refine ⟨_, rfl, ?_⟩)
  | (with_reducible refine ⟨_, _, rfl, rfl, ?_⟩)
  | (refine ⟨_, .str, rfl, rfl, ?_⟩)
  | (refine ⟨_, .int, rfl, rfl, ?_⟩)
  | (refine ⟨_, .bool, rfl, rfl, ?_⟩)
  | (refine ⟨_, .list, rfl, rfl, ?_⟩)
  | (refine ⟨_, .tuple, rfl, rfl, ?_⟩)
  | (refine ⟨rfl, _, rfl, ?_⟩)
  | (refine iT rfl ?_)
  | (refine iF rfl ?_))
local macro_rules | `(tactic| walk_at "dl4") => `(tactic| first
  | with_reducible refine ev_tupleOf ?_
  | with_reducible refine rn_par ?_
  | with_reducible refine ev_ifE ?_
  | with_reducible refine ev_strA ?_
  | with_reducible refine ev_neg ?_
  | with_reducible refine ev_fmt ?_
  | with_reducible refine ev_split ?_
  | with_reducible refine ev_eqP ?_
  | with_reducible refine ev_neP ?_
  | with_reducible refine ev_kin ?_
  | with_reducible refine ev_kix ?_
  | with_reducible refine ea_star ?_
  | with_reducible refine ev_inS ?_
  | with_reducible refine rw_next ?_
  | (with_reducible refine rw_seq ?_)
  | with_reducible refine rw_ret ?_
  | with_reducible refine ev_fld ?_
  | with_reducible refine ev_slT ?_
  | with_reducible refine ev_neg ?_
  | with_reducible refine ev_int1 ?_
  | with_reducible refine ev_dget ?_
  | with_reducible refine ev_catT ?_
  | with_reducible refine rn_par3 ?_
  | with_reducible refine ev_ref ?_)
local macro_rules | `(tactic| walk_at "dn") => `(tactic| repeat first | walk_at "dl1" | walk_at "dl4" | walk_at "dl2")
local macro_rules | `(tactic| walk_at "dl3") => `(tactic| first
  | (refine ⟨rfl, fun _ e => (by cases e <;> first | omega | decide), ?_⟩)
  | (refine ⟨small_n (Nat.le_of_ble_eq_true rfl), ?_⟩)
  | (refine ⟨_, _, _, rfl, rfl, ?_⟩)
  | (refine ⟨rfl, _, _, _, rfl, rfl, ?_⟩)
  | (refine ⟨rfl, _, _, rfl, rfl, (by decide), (by decide), ?_⟩)
  | (refine ⟨(show CPow _ _ from ⟨by decide, by decide, by decide⟩), ?_⟩)
  | (refine ⟨(show CMul _ _ from .inl ⟨by decide, by decide⟩), ?_⟩)
  | with_reducible refine et_yes ?_)
local macro_rules | `(tactic| walk_at "pl") => `(tactic| first
  | exact Pl.bl _ | exact Pl.int _ | exact Pl.str _ | exact Pl.non
  | refine Pl.ofL ?_ (Nat.le_of_ble_eq_true rfl) | refine Pl.ofT ?_ (Nat.le_of_ble_eq_true rfl)
  | exact PlL.nil | refine PlL.cons ?_ ?_)
local macro_rules | `(tactic| walk_at "dm") => `(tactic| repeat first | walk_at "dl1" | walk_at "dl4" | walk_at "dl2" | walk_at "dl3")
local macro_rules | `(tactic| walk_at "dl") => `(tactic| repeat first | walk_at "dl1" | walk_at "dl2" | walk_at "dl3")
section
variable {P : Program} {w : World} {K : PySem.W.Frag} {mg : Str → Option Value} {base : Heap} {a_copied : Addr} {a_as_items : Addr} {a_is_name : Addr} {a_is_number : Addr} {a_number_in : Addr} {a_is_test : Addr} {a_has_shape : Addr} {a_is_saying : Addr} {a_is_item : Addr} {a_sayings_in : Addr} {a_table_uses : Addr} {a_is_within_limits : Addr} {a_words_of : Addr} {a_word_at : Addr} {a_read_saying : Addr} {a_read_item : Addr} {a_read_test : Addr} {a_are_names : Addr} {a__law_box : Addr} {a__law_pull : Addr} {a__law_of : Addr} {a__law_words : Addr} {a__law_same : Addr} {a__law_field : Addr} {a__law_got : Addr} {a_OnceError : Addr} {a_InvalidNames : Addr} {a_InvalidSaying : Addr} {a_InvalidText : Addr} {a_Missing : Addr} {a_NothingLeft : Addr} {a_Question : Addr} {a_SHAPES : Addr} {a_TESTS : Addr} {t_DEEPEST_COPY : Tok} {t_LETTERS : Tok} {t_DIGITS : Tok} {t_LONGEST_NAME : Tok} {t_LONGEST_NUMBER : Tok} {t_MOST_FORMS : Tok} {t_MOST_DEEP : Tok} {t_MOST_SCOPE : Tok} {t_MOST_BOUND : Tok} {t_MOST_NAMES : Tok} 

/-! ### errors -/
/-- copied hands back the same data -/
def fCopied : Nat → Bx → List D → (D → Prop) → Prop
  | 0 => fun _ _ _ => False
  | n + 1 => fun _ ds P => ∃ (d : D) (k : Int), ds = [d, .int k] ∧ Pl n d ∧ P d
theorem ok_copied {fd : FuncData} (F_copied : FunD K "copied" "copied" (defArgs s_copied) (defBody s_copied) (defScope s_copied) [.int 40] [] a_copied fd) (T : Txt K mg a_copied a_as_items a_is_name a_is_number a_number_in a_is_test a_has_shape a_is_saying a_is_item a_sayings_in a_table_uses a_is_within_limits a_words_of a_word_at a_read_saying a_read_item a_read_test a_are_names a__law_box a__law_pull a__law_of a__law_words a__law_same a__law_field a__law_got a_OnceError a_InvalidNames a_InvalidSaying a_InvalidText a_Missing a_NothingLeft a_Question a_SHAPES a_TESTS t_DEEPEST_COPY t_LETTERS t_DIGITS t_LONGEST_NAME t_LONGEST_NUMBER t_MOST_FORMS t_MOST_DEEP t_MOST_SCOPE t_MOST_BOUND t_MOST_NAMES) (b_copied : Binds K fd ["value", "deep"] []) :
    ∀ n : Nat, FnOk P w K mg base CX0 n a_copied fd ["value", "deep"] (SpD K 2 (fCopied n))
  | 0 => none_sp rfl
  | n + 1 => by
    have G_copied := ok_copied F_copied T b_copied n
    have kp_copied := F_copied.kp
    refine okD F_copied sc_copied (fun vs H Q E h => h.1) (fun cdv A outer s H vs Q E hr h => ?_)
    obtain ⟨hl, B, M, ds, Pd, g, hd, ⟨d, k, rfl, hp, p⟩, q⟩ := h
    refine ⟨_, (pss_cons (ps_if (pt_cmpR op_eq (pv 1) pe_int (nomark _))
 (pss_one (ps_ret (pv 0)))
 pss_nil)
 (pss_cons (ps_if (pt_val (pe_callB call_isi (by rfl) T.n_isinstance (by decide +kernel) (pa_cons (pv 0) (pa_cons (pe_bltn (v := .ty "list") (u := .type "list") (by rfl) T.n_list (by decide +kernel) rfl) pa_nil))))
 (pss_one (ps_ret (pe_lc (own := [("item", 2)]) (g := (gName 2)) (tt := tYes) (by rfl) sc_copied.nd (pi_list (pv 0)) (blkOk_by (own := [("item", 2)]) (N := N_copied) (sc := defScope s_copied) (by decide +kernel)) (fun _ _ _ _ _ => (pg_name (i := 2) sc_copied.nd rfl (Or.inl rfl))) (fun _ _ _ _ _ => pts_nil) (fun _ _ _ _ _ => (pe_call G_copied (hr.mono (by omega)) (by rfl) T.m_copied kp_copied b_copied .nil pass0 (pa_cons (pv 2) (pa_cons (pe_op op_sub (pv 1) pe_int) pa_nil)))))))
 pss_nil)
 (pss_cons (ps_if (pt_val (pe_callB call_isi (by rfl) T.n_isinstance (by decide +kernel) (pa_cons (pv 0) (pa_cons (pe_bltn (v := .ty "tuple") (u := .type "tuple") (by rfl) T.n_tuple (by decide +kernel) rfl) pa_nil))))
 (pss_one (ps_ret (pe_callTy call_tuple_of (by rfl) T.n_tuple (by decide +kernel) (pa_cons (pe_lc (own := [("item", 2)]) (g := (gName 2)) (tt := tYes) (by rfl) sc_copied.nd (pi_tup (pv 0)) (blkOk_by (own := [("item", 2)]) (N := N_copied) (sc := defScope s_copied) (by decide +kernel)) (fun _ _ _ _ _ => (pg_name (i := 2) sc_copied.nd rfl (Or.inl rfl))) (fun _ _ _ _ _ => pts_nil) (fun _ _ _ _ _ => (pe_call G_copied (hr.mono (by omega)) (by rfl) T.m_copied kp_copied b_copied .nil pass0 (pa_cons (pv 2) (pa_cons (pe_op op_sub (pv 1) pe_int) pa_nil))))) pa_nil))))
 pss_nil)
 (pss_one (ps_ret (pv 0)))))), ?_⟩
    refine run_body g hd q ?_
    try dsimp only [cxOf]
    walk_at "dm"
    refine i2 (fun c1 => ?_) (fun c1 => ?_)
    · walk_at "dm"
      exact p
    cases hp with
    | non =>
      walk_at "dm"
      exact p
    | bl x =>
      walk_at "dm"
      exact p
    | int x =>
      walk_at "dm"
      exact p
    | str x =>
      walk_at "dm"
      exact p
    | @lst m ds h hz =>
      walk_at "dm"
      refine ev_lc_map (ei_list (ev_var rfl ⟨ds, rfl, by rw [sizeLine_eq]; omega, id, fun x hx => ?_, ?_⟩))
      · refine eg_name (by decide) ?_
        walk_at "dm"
        exact ⟨rfl, x, _, rfl, h x hx, rfl⟩
      · rw [List.map_id]
        exact p
    | @tup m ds h hz =>
      walk_at "dm"
      refine ev_lc_map (ei_tup (ev_var rfl ⟨ds, rfl, by rw [sizeLine_eq]; omega, id, fun x hx => ?_, ?_⟩))
      · refine eg_name (by decide) ?_
        walk_at "dm"
        exact ⟨rfl, x, _, rfl, h x hx, rfl⟩
      · refine ea_nil ⟨_, rfl, ?_⟩
        rw [List.map_id]
        exact p
theorem ok_OnceError___init__ {fd : FuncData} {i_ : Addr} (F : Fun K "__init__" "OnceError.__init__" s_OnceError___init__ i_ fd) (T : Txt K mg a_copied a_as_items a_is_name a_is_number a_number_in a_is_test a_has_shape a_is_saying a_is_item a_sayings_in a_table_uses a_is_within_limits a_words_of a_word_at a_read_saying a_read_item a_read_test a_are_names a__law_box a__law_pull a__law_of a__law_words a__law_same a__law_field a__law_got a_OnceError a_InvalidNames a_InvalidSaying a_InvalidText a_Missing a_NothingLeft a_Question a_SHAPES a_TESTS t_DEEPEST_COPY t_LETTERS t_DIGITS t_LONGEST_NAME t_LONGEST_NUMBER t_MOST_FORMS t_MOST_DEEP t_MOST_SCOPE t_MOST_BOUND t_MOST_NAMES) :
    FnOk P w K mg base CX0 1 i_ fd ["self", "code"] (SpX K 1 ["code"] (fun _ ds P => ∃ d, ds = [d] ∧ P [d])) := by
  refine F.ok sc_OnceError___init__ (fun vs H Q E h => ?_) (fun cdv A outer s H vs Q E hr h => ?_)
  · obtain ⟨B, M, a, C, us, ds, P0, rfl, hl, _⟩ := h
    show us.length + 1 = 2
    omega
  refine ⟨_, (pss_one (ps_xst (pv 0) (pv 1))), ?_⟩
  refine run_init h (fun B a C ds Pd hl st hF => ?_)
  try dsimp only [cxOf]
  obtain ⟨d, rfl, p⟩ := hF
  exact x0_store rfl (st _ (by simp)) (ev_var rfl ⟨rfl, p⟩)
theorem Pl.up {k : Nat} {d : D} (h : Pl k d) : Pl (k + 1) d := by
  induction h with
  | non => exact .non
  | bl b => exact .bl b
  | int i => exact .int i
  | str x => exact .str x
  | lst h hl ih => exact .lst ih hl
  | tup h hl ih => exact .tup ih hl
def flatD : D → Bool
  | .non => true
  | .bl _ => true
  | .int _ => true
  | .str _ => true
  | _ => false
/-- as_items: a tuple of the items, or of the value alone -/
def itemsD : D → D
  | .lst ds => .tup ds
  | .tup ds => .tup ds
  | d => .tup [d]
def fItems : Bx → List D → (D → Prop) → Prop := fun _ ds P => ∃ xs, ds = [.lst xs] ∧ (∀ x, x ∈ xs → Pl 3 x) ∧ xs.length ≤ 1000 ∧ P (.tup xs)
theorem ok_as_items {fd : FuncData} (F : Fun K "as_items" "as_items" s_as_items a_as_items fd) (T : Txt K mg a_copied a_as_items a_is_name a_is_number a_number_in a_is_test a_has_shape a_is_saying a_is_item a_sayings_in a_table_uses a_is_within_limits a_words_of a_word_at a_read_saying a_read_item a_read_test a_are_names a__law_box a__law_pull a__law_of a__law_words a__law_same a__law_field a__law_got a_OnceError a_InvalidNames a_InvalidSaying a_InvalidText a_Missing a_NothingLeft a_Question a_SHAPES a_TESTS t_DEEPEST_COPY t_LETTERS t_DIGITS t_LONGEST_NAME t_LONGEST_NUMBER t_MOST_FORMS t_MOST_DEEP t_MOST_SCOPE t_MOST_BOUND t_MOST_NAMES) {fc : FuncData} (F_copied : FunD K "copied" "copied" (defArgs s_copied) (defBody s_copied) (defScope s_copied) [.int 40] [] a_copied fc) (b_copied : Binds K fc ["value", "deep"] [])
    {ds0 : List Value} (vD_copied : Vals [V.int 40] ds0) (bD_copied : Binds K fc ["value", "deep"] ds0) : FnOk P w K mg base CX0 6 a_as_items fd ["value"] (SpD K 1 fItems) := by
  have G_copied := ok_copied (P := P) (w := w) (base := base) F_copied T b_copied 5
  have kp_copied := F_copied.kp
  refine F.ok sc_as_items (fun vs H Q E h => h.1) (fun cdv A outer s H vs Q E hr h => ?_)
  obtain ⟨hl, B, M, ds, Pd, g, hd, ⟨xs, rfl, hp, hz, p⟩, q⟩ := h
  refine ⟨_, (pss_cons (ps_if (pt_val (pe_callB call_isiT (by rfl) T.n_isinstance (by decide +kernel) (pa_cons (pv 0) (pa_cons (pe_tup (pa_cons (pe_bltn (v := .ty "list") (u := .type "list") (by rfl) T.n_list (by decide +kernel) rfl) (pa_cons (pe_bltn (v := .ty "tuple") (u := .type "tuple") (by rfl) T.n_tuple (by decide +kernel) rfl) pa_nil))) pa_nil))))
 (pss_one (ps_ret (pe_callTy call_tuple_of (by rfl) T.n_tuple (by decide +kernel) (pa_cons (pe_lc (own := [("item", 1)]) (g := (gName 1)) (tt := tYes) (by rfl) sc_as_items.nd (pi_list (pv 0)) (blkOk_by (own := [("item", 1)]) (N := N_as_items) (sc := defScope s_as_items) (by decide +kernel)) (fun _ _ _ _ _ => (pg_name (i := 1) sc_as_items.nd rfl (Or.inl rfl))) (fun _ _ _ _ _ => pts_nil) (fun _ _ _ _ _ => (pe_call G_copied (hr.mono (by omega)) (by rfl) T.m_copied kp_copied bD_copied vD_copied pass0 (pa_cons (pv 1) pa_nil)))) pa_nil))))
 pss_nil)
 (pss_one (ps_ret (pe_tup (pa_cons (pv 0) pa_nil))))), ?_⟩
  refine run_body g hd q ?_
  try dsimp only [cxOf]
  walk_at "dm"
  refine ev_lc_map (ei_list (ev_var rfl ⟨xs, rfl, by rw [sizeLine_eq]; omega, id, fun x hx => ?_, ?_⟩))
  · refine eg_name (by decide) (ev_callD (dds := [D.int 40]) (fun H => DenAll.cons (.int 40) .nil) (ea_cons (ev_var rfl (ea_nil ⟨rfl, x, 40, rfl, ?_, rfl⟩))))
    exact Pl.up (hp x hx)
  · refine ea_nil ⟨_, rfl, ?_⟩
    rw [List.map_id]
    exact p
def fItemsT : Bx → List D → (D → Prop) → Prop := fun _ ds P => ∃ xs, ds = [.tup xs] ∧ (∀ x, x ∈ xs → Pl 3 x) ∧ xs.length ≤ 1000 ∧ P (.tup xs)
theorem ok_as_itemsT {fd : FuncData} (F : Fun K "as_items" "as_items" s_as_items a_as_items fd) (T : Txt K mg a_copied a_as_items a_is_name a_is_number a_number_in a_is_test a_has_shape a_is_saying a_is_item a_sayings_in a_table_uses a_is_within_limits a_words_of a_word_at a_read_saying a_read_item a_read_test a_are_names a__law_box a__law_pull a__law_of a__law_words a__law_same a__law_field a__law_got a_OnceError a_InvalidNames a_InvalidSaying a_InvalidText a_Missing a_NothingLeft a_Question a_SHAPES a_TESTS t_DEEPEST_COPY t_LETTERS t_DIGITS t_LONGEST_NAME t_LONGEST_NUMBER t_MOST_FORMS t_MOST_DEEP t_MOST_SCOPE t_MOST_BOUND t_MOST_NAMES) {fc : FuncData} (F_copied : FunD K "copied" "copied" (defArgs s_copied) (defBody s_copied) (defScope s_copied) [.int 40] [] a_copied fc) (b_copied : Binds K fc ["value", "deep"] [])
    {ds0 : List Value} (vD_copied : Vals [V.int 40] ds0) (bD_copied : Binds K fc ["value", "deep"] ds0) : FnOk P w K mg base CX0 6 a_as_items fd ["value"] (SpD K 1 fItemsT) := by
  have G_copied := ok_copied (P := P) (w := w) (base := base) F_copied T b_copied 5
  have kp_copied := F_copied.kp
  refine F.ok sc_as_items (fun vs H Q E h => h.1) (fun cdv A outer s H vs Q E hr h => ?_)
  obtain ⟨hl, B, M, ds, Pd, g, hd, ⟨xs, rfl, hp, hz, p⟩, q⟩ := h
  refine ⟨_, (pss_cons (ps_if (pt_val (pe_callB call_isiT (by rfl) T.n_isinstance (by decide +kernel) (pa_cons (pv 0) (pa_cons (pe_tup (pa_cons (pe_bltn (v := .ty "list") (u := .type "list") (by rfl) T.n_list (by decide +kernel) rfl) (pa_cons (pe_bltn (v := .ty "tuple") (u := .type "tuple") (by rfl) T.n_tuple (by decide +kernel) rfl) pa_nil))) pa_nil))))
 (pss_one (ps_ret (pe_callTy call_tuple_of (by rfl) T.n_tuple (by decide +kernel) (pa_cons (pe_lc (own := [("item", 1)]) (g := (gName 1)) (tt := tYes) (by rfl) sc_as_items.nd (pi_tup (pv 0)) (blkOk_by (own := [("item", 1)]) (N := N_as_items) (sc := defScope s_as_items) (by decide +kernel)) (fun _ _ _ _ _ => (pg_name (i := 1) sc_as_items.nd rfl (Or.inl rfl))) (fun _ _ _ _ _ => pts_nil) (fun _ _ _ _ _ => (pe_call G_copied (hr.mono (by omega)) (by rfl) T.m_copied kp_copied bD_copied vD_copied pass0 (pa_cons (pv 1) pa_nil)))) pa_nil))))
 pss_nil)
 (pss_one (ps_ret (pe_tup (pa_cons (pv 0) pa_nil))))), ?_⟩
  refine run_body g hd q ?_
  try dsimp only [cxOf]
  walk_at "dm"
  refine ev_lc_map (ei_tup (ev_var rfl ⟨xs, rfl, by rw [sizeLine_eq]; omega, id, fun x hx => ?_, ?_⟩))
  · refine eg_name (by decide) (ev_callD (dds := [D.int 40]) (fun H => DenAll.cons (.int 40) .nil) (ea_cons (ev_var rfl (ea_nil ⟨rfl, x, 40, rfl, ?_, rfl⟩))))
    exact Pl.up (hp x hx)
  · refine ea_nil ⟨_, rfl, ?_⟩
    rw [List.map_id]
    exact p
def fItems1 : Bx → List D → (D → Prop) → Prop := fun _ ds P => ∃ d, ds = [d] ∧ flatD d = true ∧ P (.tup [d])
theorem ok_as_items1 {fd : FuncData} (F : Fun K "as_items" "as_items" s_as_items a_as_items fd) (T : Txt K mg a_copied a_as_items a_is_name a_is_number a_number_in a_is_test a_has_shape a_is_saying a_is_item a_sayings_in a_table_uses a_is_within_limits a_words_of a_word_at a_read_saying a_read_item a_read_test a_are_names a__law_box a__law_pull a__law_of a__law_words a__law_same a__law_field a__law_got a_OnceError a_InvalidNames a_InvalidSaying a_InvalidText a_Missing a_NothingLeft a_Question a_SHAPES a_TESTS t_DEEPEST_COPY t_LETTERS t_DIGITS t_LONGEST_NAME t_LONGEST_NUMBER t_MOST_FORMS t_MOST_DEEP t_MOST_SCOPE t_MOST_BOUND t_MOST_NAMES) {fc : FuncData} (F_copied : FunD K "copied" "copied" (defArgs s_copied) (defBody s_copied) (defScope s_copied) [.int 40] [] a_copied fc) (b_copied : Binds K fc ["value", "deep"] [])
    {ds0 : List Value} (vD_copied : Vals [V.int 40] ds0) (bD_copied : Binds K fc ["value", "deep"] ds0) : FnOk P w K mg base CX0 6 a_as_items fd ["value"] (SpD K 1 fItems1) := by
  have G_copied := ok_copied (P := P) (w := w) (base := base) F_copied T b_copied 5
  have kp_copied := F_copied.kp
  refine F.ok sc_as_items (fun vs H Q E h => h.1) (fun cdv A outer s H vs Q E hr h => ?_)
  obtain ⟨hl, B, M, ds, Pd, g, hd, ⟨d, rfl, hp, p⟩, q⟩ := h
  refine ⟨_, (pss_cons (ps_if (pt_val (pe_callB call_isiT (by rfl) T.n_isinstance (by decide +kernel) (pa_cons (pv 0) (pa_cons (pe_tup (pa_cons (pe_bltn (v := .ty "list") (u := .type "list") (by rfl) T.n_list (by decide +kernel) rfl) (pa_cons (pe_bltn (v := .ty "tuple") (u := .type "tuple") (by rfl) T.n_tuple (by decide +kernel) rfl) pa_nil))) pa_nil))))
 (pss_one (ps_ret (pe_callTy call_tuple_of (by rfl) T.n_tuple (by decide +kernel) (pa_cons (pe_lc (own := [("item", 1)]) (g := (gName 1)) (tt := tYes) (by rfl) sc_as_items.nd (pi_list (pv 0)) (blkOk_by (own := [("item", 1)]) (N := N_as_items) (sc := defScope s_as_items) (by decide +kernel)) (fun _ _ _ _ _ => (pg_name (i := 1) sc_as_items.nd rfl (Or.inl rfl))) (fun _ _ _ _ _ => pts_nil) (fun _ _ _ _ _ => (pe_call G_copied (hr.mono (by omega)) (by rfl) T.m_copied kp_copied bD_copied vD_copied pass0 (pa_cons (pv 1) pa_nil)))) pa_nil))))
 pss_nil)
 (pss_one (ps_ret (pe_tup (pa_cons (pv 0) pa_nil))))), ?_⟩
  refine run_body g hd q ?_
  try dsimp only [cxOf]
  cases d with
  | non => walk_at "dm"; exact p
  | bl x => walk_at "dm"; exact p
  | int x => walk_at "dm"; exact p
  | str x => walk_at "dm"; exact p
  | _ => cases hp
/-- what as_items is asked -/
def fItemsA : Bx → List D → (D → Prop) → Prop := fun B ds P => fItems B ds P ∨ fItemsT B ds P ∨ fItems1 B ds P
theorem fItemsA.mono {B : Bx} {ds : List D} {P P' : D → Prop} (h : fItemsA B ds P) (i : ∀ d, P d → P' d) : fItemsA B ds P' := by
  rcases h with ⟨xs, e, hp, hz, p⟩ | ⟨xs, e, hp, hz, p⟩ | ⟨d, e, hp, p⟩
  · exact .inl ⟨xs, e, hp, hz, i _ p⟩
  · exact .inr (.inl ⟨xs, e, hp, hz, i _ p⟩)
  · exact .inr (.inr ⟨d, e, hp, i _ p⟩)
def fGivenI (code : Str) : Bx → List D → (List D → Prop) → Prop := fun B ds P => ∃ d, ds = [d] ∧ fItemsA B [d] fun e => P [e, D.str code]
theorem ok_InvalidNames___init__ {fd : FuncData} {i_ : Addr} (F : Fun K "__init__" "InvalidNames.__init__" s_InvalidNames___init__ i_ fd) (T : Txt K mg a_copied a_as_items a_is_name a_is_number a_number_in a_is_test a_has_shape a_is_saying a_is_item a_sayings_in a_table_uses a_is_within_limits a_words_of a_word_at a_read_saying a_read_item a_read_test a_are_names a__law_box a__law_pull a__law_of a__law_words a__law_same a__law_field a__law_got a_OnceError a_InvalidNames a_InvalidSaying a_InvalidText a_Missing a_NothingLeft a_Question a_SHAPES a_TESTS t_DEEPEST_COPY t_LETTERS t_DIGITS t_LONGEST_NAME t_LONGEST_NUMBER t_MOST_FORMS t_MOST_DEEP t_MOST_SCOPE t_MOST_BOUND t_MOST_NAMES) {fb : FuncData} {i_OnceError : Addr} (XC_OnceError : XCal K a_OnceError i_OnceError) (F_OnceError___init__ : Fun K "__init__" "OnceError.__init__" s_OnceError___init__ i_OnceError fb) (b_OnceError___init__ : Binds K fb ["self", "code"] [])
    {fc : FuncData} (G_as_items : FnOk P w K mg base CX0 6 a_as_items fc ["value"] (SpD K 1 fItemsA)) (kp_as_items : PySem.W.keepIn K (.ref a_as_items) = true) (b_as_items : Binds K fc ["value"] []) :
    FnOk P w K mg base CX0 7 i_ fd ["self", "given"] (SpX K 1 ["given", "code"] (fGivenI "InvalidNames")) := by
  have G_OnceError___init__ := ok_OnceError___init__ (P := P) (w := w) (base := base) F_OnceError___init__ T
  refine F.ok sc_InvalidNames___init__ (fun vs H Q E h => ?_) (fun cdv A outer s H vs Q E hr h => ?_)
  · obtain ⟨B, M, a, C, us, ds, P0, rfl, hl, _⟩ := h
    show us.length + 1 = 2
    omega
  refine ⟨_, (pss_cons (ps_expr (pe_xinit XC_OnceError G_OnceError___init__ (hr.mono (by omega)) F_OnceError___init__.kp b_OnceError___init__ pass0 (by rfl) T.m_OnceError (pa_cons (pv 0) (pa_cons pe_str pa_nil))))
 (pss_one (ps_xst (pv 0) (pe_call G_as_items (hr.mono (by omega)) (by rfl) T.m_as_items kp_as_items b_as_items .nil pass0 (pa_cons (pv 1) pa_nil))))), ?_⟩
  refine run_init h (fun B a C ds Pd hl st hF => ?_)
  try dsimp only [cxOf]
  obtain ⟨d, rfl, hp⟩ := hF
  refine x0_seq (x0_base rfl (fun f hf => st f (by simp at hf ⊢; simp [hf])) (ea_cons (ev_str (ea_nil ⟨rfl, _, rfl, ?_⟩))))
  exact x1_store rfl (st _ (by simp)) (by decide) (ev_call (ea_cons (ev_var rfl (ea_nil ⟨rfl, hp.mono fun _ p => ⟨rfl, p⟩⟩))))
theorem orD {k n : Nat} {f : Addr} {fd : FuncData} {ps : List Str} {F1 F2 : Bx → List D → (D → Prop) → Prop} (h1 : FnOk P w K mg base CX0 k f fd ps (SpD K n F1)) (h2 : FnOk P w K mg base CX0 k f fd ps (SpD K n F2)) : FnOk P w K mg base CX0 k f fd ps (SpD K n fun B ds P => F1 B ds P ∨ F2 B ds P) where
  len := fun vs H Q E ⟨hl, B, M, ds, Pd, g, hd, p, q⟩ => p.elim (fun p => h1.len vs H Q E ⟨hl, B, M, ds, Pd, g, hd, p, q⟩) fun p => h2.len vs H Q E ⟨hl, B, M, ds, Pd, g, hd, p, q⟩
  run := fun A outer s H args us vs Q E hr e0 hb hv ⟨hl, B, M, ds, Pd, g, hd, p, q⟩ => p.elim (fun p => h1.run A outer s H args us vs Q E hr e0 hb hv ⟨hl, B, M, ds, Pd, g, hd, p, q⟩) fun p => h2.run A outer s H args us vs Q E hr e0 hb hv ⟨hl, B, M, ds, Pd, g, hd, p, q⟩
end
end KL

set_option maxHeartbeats 4000000
namespace KL
open PySem PySem.Spec PyProof.Rows L2 RZ XE TL DL RD RE XA XB XC XD XK
local macro_rules | `(tactic| walk_at "dl1") => `(tactic| first
  | with_reducible refine rn_seq ?_
  | with_reducible refine rn_if ?_
  | with_reducible refine rn_ret ?_
  | with_reducible refine rn_set ?_
  | with_reducible refine rn_drop ?_
  | with_reducible refine rn_next ?_
  | with_reducible refine et_test ?_
  | with_reducible refine et_B ?_
  | with_reducible refine et_not ?_
  | with_reducible refine et_and ?_
  | with_reducible refine et_or ?_
  | ((with_reducible refine' ev_var ?k1 ?_); (case k1 => exact rfl))
  | with_reducible refine ev_int ?_
  | with_reducible refine ev_str ?_
  | with_reducible refine ev_bl ?_
  | with_reducible refine ev_non ?_
  | with_reducible refine ev_ty ?_
  | with_reducible refine ea_nil ?_
  | with_reducible refine ea_cons ?_
  | with_reducible refine ev_andV ?_
  | with_reducible refine ev_orV ?_
  | with_reducible refine ev_notV ?_
  | with_reducible refine ev_chain ?_
  | with_reducible refine ev_len ?_
  | with_reducible refine ev_all ?_
  | with_reducible refine ev_join ?_
  | with_reducible refine ev_I0 ?_
  | with_reducible refine ev_B0 ?_
  | with_reducible refine ev_I ?_
  | with_reducible refine ev_eq ?_
  | with_reducible refine ev_ne ?_
  | with_reducible refine ev_isN ?_
  | with_reducible refine ev_notN ?_
  | with_reducible refine ev_tup ?_
  | with_reducible refine ev_lst ?_
  | with_reducible refine ev_ix ?_
  | with_reducible refine ev_cat ?_
  | with_reducible refine ev_rep ?_
  | with_reducible refine ev_mulS ?_
  | with_reducible refine ev_add_str ?_
  | with_reducible refine ev_slS ?_
  | with_reducible refine ev_slL ?_
  | with_reducible refine eo_none ?_
  | with_reducible refine eo_some ?_
  | with_reducible refine ev_in_sign ?_
  | with_reducible refine ev_is ?_
  | refine ev_is2 (m := .list) (m' := .tuple) ?_
  | with_reducible refine ev_call ?_)
local macro_rules | `(tactic| walk_at "dl2") => `(tactic| first
  | (refine ⟨_, rfl, ?_⟩; done)
  | (with_reducible refine ⟨_, rfl, ?_⟩)
  | (with_reducible refine ⟨_, _, rfl, rfl, ?_⟩)
  | (refine ⟨_, .str, rfl, rfl, ?_⟩)
  | (refine ⟨_, .int, rfl, rfl, ?_⟩)
  | (refine ⟨_, .bool, rfl, rfl, ?_⟩)
  | (refine ⟨_, .list, rfl, rfl, ?_⟩)
  | (refine ⟨_, .tuple, rfl, rfl, ?_⟩)
  | (refine ⟨rfl, _, rfl, ?_⟩)
  | (refine iT rfl ?_)
  | (refine iF rfl ?_))
local macro_rules | `(tactic| walk_at "dl4") => `(tactic| first
  | with_reducible refine ev_tupleOf ?_
  | with_reducible refine rn_par ?_
  | with_reducible refine ev_ifE ?_
  | with_reducible refine ev_strA ?_
  | with_reducible refine ev_neg ?_
  | with_reducible refine ev_fmt ?_
  | with_reducible refine ev_split ?_
  | with_reducible refine ev_eqP ?_
  | with_reducible refine ev_neP ?_
  | with_reducible refine ev_kin ?_
  | with_reducible refine ev_kix ?_
  | with_reducible refine ea_star ?_
  | with_reducible refine ev_inS ?_
  | with_reducible refine rw_next ?_
  | (with_reducible refine rw_seq ?_)
  | with_reducible refine rw_ret ?_
  | with_reducible refine ev_fld ?_
  | with_reducible refine ev_slT ?_
  | with_reducible refine ev_neg ?_
  | with_reducible refine ev_int1 ?_
  | with_reducible refine ev_dget ?_
  | with_reducible refine ev_catT ?_
  | with_reducible refine rn_par3 ?_
  | with_reducible refine ev_ref ?_)
local macro_rules | `(tactic| walk_at "dn") => `(tactic| repeat first | walk_at "dl1" | walk_at "dl4" | walk_at "dl2")
local macro_rules | `(tactic| walk_at "dl3") => `(tactic| first
  | (refine ⟨rfl, fun _ e => (by cases e <;> first | omega | decide), ?_⟩)
  | (refine ⟨small_n (Nat.le_of_ble_eq_true rfl), ?_⟩)
  | (refine ⟨_, _, _, rfl, rfl, ?_⟩)
  | (refine ⟨rfl, _, _, _, rfl, rfl, ?_⟩)
  | (refine ⟨rfl, _, _, rfl, rfl, (by decide), (by decide), ?_⟩)
  | (refine ⟨(show CPow _ _ from ⟨by decide, by decide, by decide⟩), ?_⟩)
  | (refine ⟨(show CMul _ _ from .inl ⟨by decide, by decide⟩), ?_⟩)
  | with_reducible refine et_yes ?_)
local macro_rules | `(tactic| walk_at "pl") => `(tactic| first
  | exact Pl.bl _ | exact Pl.int _ | exact Pl.str _ | exact Pl.non
  | refine Pl.ofL ?_ (Nat.le_of_ble_eq_true rfl) | refine Pl.ofT ?_ (Nat.le_of_ble_eq_true rfl)
  | exact PlL.nil | refine PlL.cons ?_ ?_)
local macro_rules | `(tactic| walk_at "dm") => `(tactic| repeat first | walk_at "dl1" | walk_at "dl4" | walk_at "dl2" | walk_at "dl3")
local macro_rules | `(tactic| walk_at "dl") => `(tactic| repeat first | walk_at "dl1" | walk_at "dl2" | walk_at "dl3")
section
variable {P : Program} {w : World} {K : PySem.W.Frag} {mg : Str → Option Value} {base : Heap} {a_copied : Addr} {a_as_items : Addr} {a_is_name : Addr} {a_is_number : Addr} {a_number_in : Addr} {a_is_test : Addr} {a_has_shape : Addr} {a_is_saying : Addr} {a_is_item : Addr} {a_sayings_in : Addr} {a_table_uses : Addr} {a_is_within_limits : Addr} {a_words_of : Addr} {a_word_at : Addr} {a_read_saying : Addr} {a_read_item : Addr} {a_read_test : Addr} {a_are_names : Addr} {a__law_box : Addr} {a__law_pull : Addr} {a__law_of : Addr} {a__law_words : Addr} {a__law_same : Addr} {a__law_field : Addr} {a__law_got : Addr} {a_OnceError : Addr} {a_InvalidNames : Addr} {a_InvalidSaying : Addr} {a_InvalidText : Addr} {a_Missing : Addr} {a_NothingLeft : Addr} {a_Question : Addr} {a_SHAPES : Addr} {a_TESTS : Addr} {t_DEEPEST_COPY : Tok} {t_LETTERS : Tok} {t_DIGITS : Tok} {t_LONGEST_NAME : Tok} {t_LONGEST_NUMBER : Tok} {t_MOST_FORMS : Tok} {t_MOST_DEEP : Tok} {t_MOST_SCOPE : Tok} {t_MOST_BOUND : Tok} {t_MOST_NAMES : Tok} 

/-! ### the field that the law looks at -/
theorem ok__law_field {fd : FuncData} (F : Fun K "_law_field" "_law_field" s__law_field a__law_field fd) (T : Txt K mg a_copied a_as_items a_is_name a_is_number a_number_in a_is_test a_has_shape a_is_saying a_is_item a_sayings_in a_table_uses a_is_within_limits a_words_of a_word_at a_read_saying a_read_item a_read_test a_are_names a__law_box a__law_pull a__law_of a__law_words a__law_same a__law_field a__law_got a_OnceError a_InvalidNames a_InvalidSaying a_InvalidText a_Missing a_NothingLeft a_Question a_SHAPES a_TESTS t_DEEPEST_COPY t_LETTERS t_DIGITS t_LONGEST_NAME t_LONGEST_NUMBER t_MOST_FORMS t_MOST_DEEP t_MOST_SCOPE t_MOST_BOUND t_MOST_NAMES) : FnZ P w K mg base CX0 1 a__law_field fd ["_law_e"] (spField K) := by
  refine okZ F sc__law_field (fun a cls d vs H Q E h => by rw [h.1]; rfl) (fun cdv A outer s H vs Q E a oe cls d hz hf hr h => ?_)
  obtain ⟨rfl, C, dd, fs, z, e1, e2, e3, e4, e5, hz1, h⟩ := h
  refine ⟨_, (pss_cons (ps_if (pt_cmpR op_in_seq (pe_xfH List.mem_cons_self hz hf (pv 0) rfl) (pe_lst (pa_cons pe_str (pa_cons pe_str (pa_cons pe_str (pa_cons pe_str (pa_cons pe_str (pa_cons pe_str (pa_cons pe_str pa_nil)))))))) rfl)
 (pss_one (ps_ret (pe_xfH List.mem_cons_self hz hf (pv 0) rfl)))
 pss_nil)
 (pss_cons (ps_if (pt_cmpR op_in_seq (pe_xfH List.mem_cons_self hz hf (pv 0) rfl) (pe_lst (pa_cons pe_str (pa_cons pe_str (pa_cons pe_str (pa_cons pe_str (pa_cons pe_str (pa_cons pe_str pa_nil))))))) rfl)
 (pss_one (ps_ret (pe_xfH List.mem_cons_self hz hf (pv 0) rfl)))
 pss_nil)
 (pss_cons (ps_if (pt_cmpR op_eq (pe_xfH List.mem_cons_self hz hf (pv 0) rfl) pe_str (nomark _))
 (pss_one (ps_ret (pe_tup (pa_cons (pe_xfH List.mem_cons_self hz hf (pv 0) rfl) (pa_cons (pe_xfH List.mem_cons_self hz hf (pv 0) rfl) pa_nil)))))
 pss_nil)
 (pss_cons (ps_if (pt_cmpR op_in_seq (pe_xfH List.mem_cons_self hz hf (pv 0) rfl) (pe_lst (pa_cons pe_str (pa_cons pe_str (pa_cons pe_str pa_nil)))) rfl)
 (pss_one (ps_ret (pe_xfH List.mem_cons_self hz hf (pv 0) rfl)))
 pss_nil)
 (pss_cons (ps_if (pt_cmpR op_in_seq (pe_xfH List.mem_cons_self hz hf (pv 0) rfl) (pe_lst (pa_cons pe_str (pa_cons pe_str (pa_cons pe_str pa_nil)))) rfl)
 (pss_one (ps_ret (pe_xfH List.mem_cons_self hz hf (pv 0) rfl)))
 pss_nil)
 (pss_one (ps_ret (pe_ifExp (pt_cmpR op_eq (pe_xfH List.mem_cons_self hz hf (pv 0) rfl) pe_str (nomark _)) (pe_xfH List.mem_cons_self hz hf (pv 0) rfl) pe_non)))))))), ?_⟩
  try dsimp only [cxOf]
  have x : Xat K a cls d fs H := ⟨C, dd, e1, e2, e3, e4, e5⟩
  have h0 : (L2.start N__law_field [V.ref a])[0]? = some (some (V.ref a)) := rfl
  unfold fieldOf at h
  refine t_inL fldL1 x h0 hz1 (by decide) (fun H1 s1 => ?_)
  refine ⟨_, rfl, ?_⟩
  refine i2 (fun c => ?_) (fun c => ?_)
  · rw [if_pos c] at h
    obtain ⟨v, hv, q⟩ := h
    exact t_fld (x.sub s1) h0 (by decide) hv (q _ s1)
  rw [if_neg (by rw [c]; exact Bool.false_ne_true)] at h
  refine t_inL fldL2 (x.sub s1) h0 hz1 (by decide) (fun H2 s2 => ?_)
  refine ⟨_, rfl, ?_⟩
  have s2 := s1.trans s2
  refine i2 (fun c => ?_) (fun c => ?_)
  · rw [if_pos c] at h
    obtain ⟨v, hv, q⟩ := h
    exact t_fld (x.sub s2) h0 (by decide) hv (q _ s2)
  rw [if_neg (by rw [c]; exact Bool.false_ne_true)] at h
  refine t_eqC (x.sub s2) h0 hz1 ?_
  refine ⟨_, rfl, ?_⟩
  refine i2 (fun c => ?_) (fun c => ?_)
  · have c : decide (z = "InvalidRow") = true := c
    rw [if_pos c] at h
    obtain ⟨v, u, hv, hu, q⟩ := h
    exact t_two (x.sub s2) h0 (by decide) (by decide) hv hu fun p hp => q _ p s2 hp
  have c : decide (z = "InvalidRow") = false := c
  rw [if_neg (by rw [c]; exact Bool.false_ne_true)] at h
  refine t_inL fldL4 (x.sub s2) h0 hz1 (by decide) (fun H3 s3 => ?_)
  refine ⟨_, rfl, ?_⟩
  have s3 := s2.trans s3
  refine i2 (fun c => ?_) (fun c => ?_)
  · rw [if_pos c] at h
    obtain ⟨v, hv, q⟩ := h
    exact t_fld (x.sub s3) h0 (by decide) hv (q _ s3)
  rw [if_neg (by rw [c]; exact Bool.false_ne_true)] at h
  refine t_inL fldL5 (x.sub s3) h0 hz1 (by decide) (fun H4 s4 => ?_)
  refine ⟨_, rfl, ?_⟩
  have s4 := s3.trans s4
  refine i2 (fun c => ?_) (fun c => ?_)
  · rw [if_pos c] at h
    obtain ⟨v, hv, q⟩ := h
    exact t_fld (x.sub s4) h0 (by decide) hv (q _ s4)
  rw [if_neg (by rw [c]; exact Bool.false_ne_true)] at h
  refine t_eqC (x.sub s4) h0 hz1 ?_
  refine ⟨_, rfl, ?_⟩
  refine i2 (fun c => ?_) (fun c => ?_)
  · have c : decide (z = "InvalidText") = true := c
    rw [if_pos c] at h
    obtain ⟨v, hv, q⟩ := h
    exact t_fld (x.sub s4) h0 (by decide) hv (q _ s4)
  · have c : decide (z = "InvalidText") = false := c
    rw [if_neg (by rw [c]; exact Bool.false_ne_true)] at h
    exact h _ s4
end
end KL

set_option maxHeartbeats 4000000
namespace KL
open PySem PySem.Spec PyProof.Rows L2 RZ XE TL DL RD RE XA XB XC XD XK
local macro_rules | `(tactic| walk_at "dl1") => `(tactic| first
  | with_reducible refine rn_seq ?_
  | with_reducible refine rn_if ?_
  | with_reducible refine rn_ret ?_
  | with_reducible refine rn_set ?_
  | with_reducible refine rn_drop ?_
  | with_reducible refine rn_next ?_
  | with_reducible refine et_test ?_
  | with_reducible refine et_B ?_
  | with_reducible refine et_not ?_
  | with_reducible refine et_and ?_
  | with_reducible refine et_or ?_
  | ((with_reducible refine' ev_var ?k1 ?_); (case k1 => exact rfl))
  | with_reducible refine ev_int ?_
  | with_reducible refine ev_str ?_
  | with_reducible refine ev_bl ?_
  | with_reducible refine ev_non ?_
  | with_reducible refine ev_ty ?_
  | with_reducible refine ea_nil ?_
  | with_reducible refine ea_cons ?_
  | with_reducible refine ev_andV ?_
  | with_reducible refine ev_orV ?_
  | with_reducible refine ev_notV ?_
  | with_reducible refine ev_chain ?_
  | with_reducible refine ev_len ?_
  | with_reducible refine ev_all ?_
  | with_reducible refine ev_join ?_
  | with_reducible refine ev_I0 ?_
  | with_reducible refine ev_B0 ?_
  | with_reducible refine ev_I ?_
  | with_reducible refine ev_eq ?_
  | with_reducible refine ev_ne ?_
  | with_reducible refine ev_isN ?_
  | with_reducible refine ev_notN ?_
  | with_reducible refine ev_tup ?_
  | with_reducible refine ev_lst ?_
  | with_reducible refine ev_ix ?_
  | with_reducible refine ev_cat ?_
  | with_reducible refine ev_rep ?_
  | with_reducible refine ev_mulS ?_
  | with_reducible refine ev_add_str ?_
  | with_reducible refine ev_slS ?_
  | with_reducible refine ev_slL ?_
  | with_reducible refine eo_none ?_
  | with_reducible refine eo_some ?_
  | with_reducible refine ev_in_sign ?_
  | with_reducible refine ev_is ?_
  | refine ev_is2 (m := .list) (m' := .tuple) ?_
  | with_reducible refine ev_call ?_)
local macro_rules | `(tactic| walk_at "dl2") => `(tactic| first
  | (refine ⟨_, rfl, ?_⟩; done)
  | (with_reducible refine ⟨_, rfl, ?_⟩)
  | (with_reducible refine ⟨_, _, rfl, rfl, ?_⟩)
  | (refine ⟨_, .str, rfl, rfl, ?_⟩)
  | (refine ⟨_, .int, rfl, rfl, ?_⟩)
  | (refine ⟨_, .bool, rfl, rfl, ?_⟩)
  | (refine ⟨_, .list, rfl, rfl, ?_⟩)
  | (refine ⟨_, .tuple, rfl, rfl, ?_⟩)
  | (refine ⟨rfl, _, rfl, ?_⟩)
  | (refine iT rfl ?_)
  | (refine iF rfl ?_))
local macro_rules | `(tactic| walk_at "dl4") => `(tactic| first
  | with_reducible refine ev_tupleOf ?_
  | with_reducible refine rn_par ?_
  | with_reducible refine ev_ifE ?_
  | with_reducible refine ev_strA ?_
  | with_reducible refine ev_neg ?_
  | with_reducible refine ev_fmt ?_
  | with_reducible refine ev_split ?_
  | with_reducible refine ev_eqP ?_
  | with_reducible refine ev_neP ?_
  | with_reducible refine ev_kin ?_
  | with_reducible refine ev_kix ?_
  | with_reducible refine ea_star ?_
  | with_reducible refine ev_inS ?_
  | with_reducible refine rw_next ?_
  | (with_reducible refine rw_seq ?_)
  | with_reducible refine rw_ret ?_
  | with_reducible refine ev_fld ?_
  | with_reducible refine ev_slT ?_
  | with_reducible refine ev_neg ?_
  | with_reducible refine ev_int1 ?_
  | with_reducible refine ev_dget ?_
  | with_reducible refine ev_catT ?_
  | with_reducible refine rn_par3 ?_
  | with_reducible refine ev_ref ?_)
local macro_rules | `(tactic| walk_at "dn") => `(tactic| repeat first | walk_at "dl1" | walk_at "dl4" | walk_at "dl2")
local macro_rules | `(tactic| walk_at "dl3") => `(tactic| first
  | (refine ⟨rfl, fun _ e => (by cases e <;> first | omega | decide), ?_⟩)
  | (refine ⟨small_n (Nat.le_of_ble_eq_true rfl), ?_⟩)
  | (refine ⟨_, _, _, rfl, rfl, ?_⟩)
  | (refine ⟨rfl, _, _, _, rfl, rfl, ?_⟩)
  | (refine ⟨rfl, _, _, rfl, rfl, (by decide), (by decide), ?_⟩)
  | (refine ⟨(show CPow _ _ from ⟨by decide, by decide, by decide⟩), ?_⟩)
  | (refine ⟨(show CMul _ _ from .inl ⟨by decide, by decide⟩), ?_⟩)
  | with_reducible refine et_yes ?_)
local macro_rules | `(tactic| walk_at "pl") => `(tactic| first
  | exact Pl.bl _ | exact Pl.int _ | exact Pl.str _ | exact Pl.non
  | refine Pl.ofL ?_ (Nat.le_of_ble_eq_true rfl) | refine Pl.ofT ?_ (Nat.le_of_ble_eq_true rfl)
  | exact PlL.nil | refine PlL.cons ?_ ?_)
local macro_rules | `(tactic| walk_at "dm") => `(tactic| repeat first | walk_at "dl1" | walk_at "dl4" | walk_at "dl2" | walk_at "dl3")
local macro_rules | `(tactic| walk_at "dl") => `(tactic| repeat first | walk_at "dl1" | walk_at "dl2" | walk_at "dl3")
section
variable {P : Program} {w : World} {K : PySem.W.Frag} {mg : Str → Option Value} {base : Heap} {a_copied : Addr} {a_as_items : Addr} {a_is_name : Addr} {a_is_number : Addr} {a_number_in : Addr} {a_is_test : Addr} {a_has_shape : Addr} {a_is_saying : Addr} {a_is_item : Addr} {a_sayings_in : Addr} {a_table_uses : Addr} {a_is_within_limits : Addr} {a_words_of : Addr} {a_word_at : Addr} {a_read_saying : Addr} {a_read_item : Addr} {a_read_test : Addr} {a_are_names : Addr} {a__law_box : Addr} {a__law_pull : Addr} {a__law_of : Addr} {a__law_words : Addr} {a__law_same : Addr} {a__law_field : Addr} {a__law_got : Addr} {a_OnceError : Addr} {a_InvalidNames : Addr} {a_InvalidSaying : Addr} {a_InvalidText : Addr} {a_Missing : Addr} {a_NothingLeft : Addr} {a_Question : Addr} {a_SHAPES : Addr} {a_TESTS : Addr} {t_DEEPEST_COPY : Tok} {t_LETTERS : Tok} {t_DIGITS : Tok} {t_LONGEST_NAME : Tok} {t_LONGEST_NUMBER : Tok} {t_MOST_FORMS : Tok} {t_MOST_DEEP : Tok} {t_MOST_SCOPE : Tok} {t_MOST_BOUND : Tok} {t_MOST_NAMES : Tok} 

/-! ### names of a question -/
theorem nameD_str {d : D} (h : nameD d = true) : ∃ z, d = .str z ∧ isNameS z = true := by
  cases d with
  | str z => exact ⟨z, rfl, h⟩
  | _ => cases h
theorem names_str : ∀ {xs : List D}, (∀ x, x ∈ xs → nameD x = true) → ∃ zs : List Str, xs = zs.map D.str ∧ ∀ z, z ∈ zs → isNameS z = true
  | [], _ => ⟨[], rfl, fun _ h => by cases h⟩
  | x :: xs, h => by
    obtain ⟨z, e, hz⟩ := nameD_str (h x List.mem_cons_self)
    obtain ⟨zs, e2, hzs⟩ := names_str fun y hy => h y (List.mem_cons_of_mem _ hy)
    refine ⟨z :: zs, by rw [e, e2]; rfl, fun y hy => ?_⟩
    rcases List.mem_cons.mp hy with rfl | hy
    · exact hz
    · exact hzs _ hy
/-- b: these are the names of a question -/
inductive NmB (xs : List D) : Bool → Prop where
  | many (h : 3 < xs.length) : NmB xs false
  | odd (h : ∃ x, x ∈ xs ∧ nameD x = false) : NmB xs false
  | txt (zs : List Str) (e : xs = zs.map D.str) (h : ∀ z, z ∈ zs → isNameS z = true) : NmB xs (decide ((XT.once zs).length = zs.length))
def fAreN : Bx → List D → (D → Prop) → Prop := fun _ ds P => ∃ xs, ds = [.lst xs] ∧ (∀ x, x ∈ xs → OkV x) ∧ xs.length ≤ 1000 ∧ ∃ b, NmB xs b ∧ (xs.length ≤ 3 ∨ b = false) ∧ P (.bl b)
theorem ok_are_names {fd : FuncData} (F : Fun K "are_names" "are_names" s_are_names a_are_names fd) (T : Txt K mg a_copied a_as_items a_is_name a_is_number a_number_in a_is_test a_has_shape a_is_saying a_is_item a_sayings_in a_table_uses a_is_within_limits a_words_of a_word_at a_read_saying a_read_item a_read_test a_are_names a__law_box a__law_pull a__law_of a__law_words a__law_same a__law_field a__law_got a_OnceError a_InvalidNames a_InvalidSaying a_InvalidText a_Missing a_NothingLeft a_Question a_SHAPES a_TESTS t_DEEPEST_COPY t_LETTERS t_DIGITS t_LONGEST_NAME t_LONGEST_NUMBER t_MOST_FORMS t_MOST_DEEP t_MOST_SCOPE t_MOST_BOUND t_MOST_NAMES) (C_is_name : Cal P w K mg base 1 a_is_name ["value"] (SpD K 1 fIsNm)) :
    FnOk P w K mg base CX0 2 a_are_names fd ["value"] (SpD K 1 fAreN) := by
  obtain ⟨fd_is_name, G_is_name, kp_is_name, b_is_name⟩ := C_is_name.ex
  refine F.ok sc_are_names (fun vs H Q E h => h.1) (fun cdv A outer s H vs Q E hr h => ?_)
  obtain ⟨hl, B, M, ds, Pd, g, hd, ⟨xs, rfl, ho, hz, b, hb, hs, p⟩, q⟩ := h
  refine ⟨_, (pss_cons (ps_if (PW.pt (pw_or (pt_not (pt_val (pe_callB call_isiT (by rfl) T.n_isinstance (by decide +kernel) (pa_cons (pv 0) (pa_cons (pe_tup (pa_cons (pe_bltn (v := .ty "list") (u := .type "list") (by rfl) T.n_list (by decide +kernel) rfl) (pa_cons (pe_bltn (v := .ty "tuple") (u := .type "tuple") (by rfl) T.n_tuple (by decide +kernel) rfl) pa_nil))) pa_nil))))) (pw_or1 (pt_cmpR op_gt (pe_callB call_len (by rfl) T.n_len PySem.boot_len (pa_cons (pv 0) pa_nil)) (pe_glob (v := .int 3) (by rfl) T.c_MOST_NAMES ⟨_, rfl⟩) (nomark _)))))
 (pss_one (ps_ret pe_bl))
 pss_nil)
 (pss_one (ps_ret (pe_and (pe_callB (cr_all rfl) (by rfl) T.n_all (by decide +kernel) (pa_cons (pe_lc (own := [("name", 1)]) (g := (gName 1)) (tt := tYes) (by rfl) sc_are_names.nd (pi_list (pv 0)) (blkOk_by (own := [("name", 1)]) (N := N_are_names) (sc := defScope s_are_names) (by decide +kernel)) (fun _ _ _ _ _ => (pg_name (i := 1) sc_are_names.nd rfl (Or.inl rfl))) (fun _ _ _ _ _ => pts_nil) (fun _ _ _ _ _ => (pe_call G_is_name (hr.mono (by omega)) (by rfl) T.m_is_name kp_is_name b_is_name .nil pass0 (pa_cons (pv 1) pa_nil)))) pa_nil)) (pe_one (pe_cmpR op_eq (XT.pe_lenSetT rfl (by rfl) T.n_len (by rfl) T.n_set (pv 0)) (pe_callB call_len (by rfl) T.n_len PySem.boot_len (pa_cons (pv 0) pa_nil)) (nomark _))))))), ?_⟩
  refine run_body g hd q ?_
  try dsimp only [cxOf]
  walk_at "dm"
  refine i2 (fun c1 => ?_) (fun c1 => ?_)
  · have c1 : 3 < xs.length := by have := of_decide_eq_true c1; omega
    have e : b = false := hs.elim (fun h => absurd h (by omega)) id
    subst e
    walk_at "dm"
    exact p
  have c1 : xs.length ≤ 3 := by have := of_decide_eq_false c1; omega
  walk_at "dm"
  refine ev_lc_map (ei_list (ev_var rfl ⟨xs, rfl, by rw [sizeLine_eq]; omega, fun d => .bl (nameD d), fun d hd => ?_, ?_⟩))
  · refine eg_name (by decide) ?_
    walk_at "dm"
    exact ⟨ho d hd, rfl⟩
  walk_at "dm"
  refine ⟨xs.map nameD, by rw [List.map_map]; rfl, ?_⟩
  refine ⟨_, rfl, ?_⟩
  refine i2 (fun c2 => ?_) (fun c2 => ?_)
  · have all : ∀ x, x ∈ xs → nameD x = true := fun x hx => by
      rw [List.all_map] at c2
      exact List.all_eq_true.mp c2 x hx
    cases hb with
    | many h => omega
    | odd h =>
      obtain ⟨x, hx, e⟩ := h
      rw [all x hx] at e
      cases e
    | txt zs e h =>
      subst e
      rw [List.length_map] at c1
      refine ev_eq (ev_lenSetT (ev_var rfl ⟨zs, by first | exact .inl rfl | exact .inr rfl, by omega, ?_⟩))
      walk_at "dm"
      rw [List.length_map, show decide (((XT.once zs).length : Int) = (zs.length : Int)) = decide ((XT.once zs).length = zs.length) from decide_eq_decide.mpr Int.ofNat_inj]
      exact p
  · have e : b = false := by
      cases hb with
      | many h => rfl
      | odd h => rfl
      | txt zs e h =>
        exfalso
        subst e
        rw [List.all_map, List.all_map] at c2
        exact Bool.false_ne_true (c2.symm.trans (List.all_eq_true.mpr fun z hz => h z hz))
    rw [e] at p
    exact p
def fAreNT : Bx → List D → (D → Prop) → Prop := fun _ ds P => ∃ xs, ds = [.tup xs] ∧ (∀ x, x ∈ xs → OkV x) ∧ xs.length ≤ 1000 ∧ ∃ b, NmB xs b ∧ (xs.length ≤ 3 ∨ b = false) ∧ P (.bl b)
theorem ok_are_namesT {fd : FuncData} (F : Fun K "are_names" "are_names" s_are_names a_are_names fd) (T : Txt K mg a_copied a_as_items a_is_name a_is_number a_number_in a_is_test a_has_shape a_is_saying a_is_item a_sayings_in a_table_uses a_is_within_limits a_words_of a_word_at a_read_saying a_read_item a_read_test a_are_names a__law_box a__law_pull a__law_of a__law_words a__law_same a__law_field a__law_got a_OnceError a_InvalidNames a_InvalidSaying a_InvalidText a_Missing a_NothingLeft a_Question a_SHAPES a_TESTS t_DEEPEST_COPY t_LETTERS t_DIGITS t_LONGEST_NAME t_LONGEST_NUMBER t_MOST_FORMS t_MOST_DEEP t_MOST_SCOPE t_MOST_BOUND t_MOST_NAMES) (C_is_name : Cal P w K mg base 1 a_is_name ["value"] (SpD K 1 fIsNm)) :
    FnOk P w K mg base CX0 2 a_are_names fd ["value"] (SpD K 1 fAreNT) := by
  obtain ⟨fd_is_name, G_is_name, kp_is_name, b_is_name⟩ := C_is_name.ex
  refine F.ok sc_are_names (fun vs H Q E h => h.1) (fun cdv A outer s H vs Q E hr h => ?_)
  obtain ⟨hl, B, M, ds, Pd, g, hd, ⟨xs, rfl, ho, hz, b, hb, hs, p⟩, q⟩ := h
  refine ⟨_, (pss_cons (ps_if (PW.pt (pw_or (pt_not (pt_val (pe_callB call_isiT (by rfl) T.n_isinstance (by decide +kernel) (pa_cons (pv 0) (pa_cons (pe_tup (pa_cons (pe_bltn (v := .ty "list") (u := .type "list") (by rfl) T.n_list (by decide +kernel) rfl) (pa_cons (pe_bltn (v := .ty "tuple") (u := .type "tuple") (by rfl) T.n_tuple (by decide +kernel) rfl) pa_nil))) pa_nil))))) (pw_or1 (pt_cmpR op_gt (pe_callB call_len (by rfl) T.n_len PySem.boot_len (pa_cons (pv 0) pa_nil)) (pe_glob (v := .int 3) (by rfl) T.c_MOST_NAMES ⟨_, rfl⟩) (nomark _)))))
 (pss_one (ps_ret pe_bl))
 pss_nil)
 (pss_one (ps_ret (pe_and (pe_callB (cr_all rfl) (by rfl) T.n_all (by decide +kernel) (pa_cons (pe_lc (own := [("name", 1)]) (g := (gName 1)) (tt := tYes) (by rfl) sc_are_names.nd (pi_tup (pv 0)) (blkOk_by (own := [("name", 1)]) (N := N_are_names) (sc := defScope s_are_names) (by decide +kernel)) (fun _ _ _ _ _ => (pg_name (i := 1) sc_are_names.nd rfl (Or.inl rfl))) (fun _ _ _ _ _ => pts_nil) (fun _ _ _ _ _ => (pe_call G_is_name (hr.mono (by omega)) (by rfl) T.m_is_name kp_is_name b_is_name .nil pass0 (pa_cons (pv 1) pa_nil)))) pa_nil)) (pe_one (pe_cmpR op_eq (XT.pe_lenSetT rfl (by rfl) T.n_len (by rfl) T.n_set (pv 0)) (pe_callB call_len (by rfl) T.n_len PySem.boot_len (pa_cons (pv 0) pa_nil)) (nomark _))))))), ?_⟩
  refine run_body g hd q ?_
  try dsimp only [cxOf]
  walk_at "dm"
  refine i2 (fun c1 => ?_) (fun c1 => ?_)
  · have c1 : 3 < xs.length := by have := of_decide_eq_true c1; omega
    have e : b = false := hs.elim (fun h => absurd h (by omega)) id
    subst e
    walk_at "dm"
    exact p
  have c1 : xs.length ≤ 3 := by have := of_decide_eq_false c1; omega
  walk_at "dm"
  refine ev_lc_map (ei_tup (ev_var rfl ⟨xs, rfl, by rw [sizeLine_eq]; omega, fun d => .bl (nameD d), fun d hd => ?_, ?_⟩))
  · refine eg_name (by decide) ?_
    walk_at "dm"
    exact ⟨ho d hd, rfl⟩
  walk_at "dm"
  refine ⟨xs.map nameD, by rw [List.map_map]; rfl, ?_⟩
  refine ⟨_, rfl, ?_⟩
  refine i2 (fun c2 => ?_) (fun c2 => ?_)
  · have all : ∀ x, x ∈ xs → nameD x = true := fun x hx => by
      rw [List.all_map] at c2
      exact List.all_eq_true.mp c2 x hx
    cases hb with
    | many h => omega
    | odd h =>
      obtain ⟨x, hx, e⟩ := h
      rw [all x hx] at e
      cases e
    | txt zs e h =>
      subst e
      rw [List.length_map] at c1
      refine ev_eq (ev_lenSetT (ev_var rfl ⟨zs, by first | exact .inl rfl | exact .inr rfl, by omega, ?_⟩))
      walk_at "dm"
      rw [List.length_map, show decide (((XT.once zs).length : Int) = (zs.length : Int)) = decide ((XT.once zs).length = zs.length) from decide_eq_decide.mpr Int.ofNat_inj]
      exact p
  · have e : b = false := by
      cases hb with
      | many h => rfl
      | odd h => rfl
      | txt zs e h =>
        exfalso
        subst e
        rw [List.all_map, List.all_map] at c2
        exact Bool.false_ne_true (c2.symm.trans (List.all_eq_true.mpr fun z hz => h z hz))
    rw [e] at p
    exact p
def fAreN1 : Bx → List D → (D → Prop) → Prop := fun _ ds P => ∃ d, ds = [d] ∧ flatD d = true ∧ P (.bl false)
theorem ok_are_names1 {fd : FuncData} (F : Fun K "are_names" "are_names" s_are_names a_are_names fd) (T : Txt K mg a_copied a_as_items a_is_name a_is_number a_number_in a_is_test a_has_shape a_is_saying a_is_item a_sayings_in a_table_uses a_is_within_limits a_words_of a_word_at a_read_saying a_read_item a_read_test a_are_names a__law_box a__law_pull a__law_of a__law_words a__law_same a__law_field a__law_got a_OnceError a_InvalidNames a_InvalidSaying a_InvalidText a_Missing a_NothingLeft a_Question a_SHAPES a_TESTS t_DEEPEST_COPY t_LETTERS t_DIGITS t_LONGEST_NAME t_LONGEST_NUMBER t_MOST_FORMS t_MOST_DEEP t_MOST_SCOPE t_MOST_BOUND t_MOST_NAMES) (C_is_name : Cal P w K mg base 1 a_is_name ["value"] (SpD K 1 fIsNm)) :
    FnOk P w K mg base CX0 2 a_are_names fd ["value"] (SpD K 1 fAreN1) := by
  obtain ⟨fd_is_name, G_is_name, kp_is_name, b_is_name⟩ := C_is_name.ex
  refine F.ok sc_are_names (fun vs H Q E h => h.1) (fun cdv A outer s H vs Q E hr h => ?_)
  obtain ⟨hl, B, M, ds, Pd, g, hd, ⟨d, rfl, hf, p⟩, q⟩ := h
  refine ⟨_, (pss_cons (ps_if (PW.pt (pw_or (pt_not (pt_val (pe_callB call_isiT (by rfl) T.n_isinstance (by decide +kernel) (pa_cons (pv 0) (pa_cons (pe_tup (pa_cons (pe_bltn (v := .ty "list") (u := .type "list") (by rfl) T.n_list (by decide +kernel) rfl) (pa_cons (pe_bltn (v := .ty "tuple") (u := .type "tuple") (by rfl) T.n_tuple (by decide +kernel) rfl) pa_nil))) pa_nil))))) (pw_or1 (pt_cmpR op_gt (pe_callB call_len (by rfl) T.n_len PySem.boot_len (pa_cons (pv 0) pa_nil)) (pe_glob (v := .int 3) (by rfl) T.c_MOST_NAMES ⟨_, rfl⟩) (nomark _)))))
 (pss_one (ps_ret pe_bl))
 pss_nil)
 (pss_one (ps_ret (pe_and (pe_callB (cr_all rfl) (by rfl) T.n_all (by decide +kernel) (pa_cons (pe_lc (own := [("name", 1)]) (g := (gName 1)) (tt := tYes) (by rfl) sc_are_names.nd (pi_list (pv 0)) (blkOk_by (own := [("name", 1)]) (N := N_are_names) (sc := defScope s_are_names) (by decide +kernel)) (fun _ _ _ _ _ => (pg_name (i := 1) sc_are_names.nd rfl (Or.inl rfl))) (fun _ _ _ _ _ => pts_nil) (fun _ _ _ _ _ => (pe_call G_is_name (hr.mono (by omega)) (by rfl) T.m_is_name kp_is_name b_is_name .nil pass0 (pa_cons (pv 1) pa_nil)))) pa_nil)) (pe_one (pe_cmpR op_eq (XT.pe_lenSetT rfl (by rfl) T.n_len (by rfl) T.n_set (pv 0)) (pe_callB call_len (by rfl) T.n_len PySem.boot_len (pa_cons (pv 0) pa_nil)) (nomark _))))))), ?_⟩
  refine run_body g hd q ?_
  try dsimp only [cxOf]
  cases d with
  | non => walk_at "dm"; exact p
  | bl x => walk_at "dm"; exact p
  | int x => walk_at "dm"; exact p
  | str x => walk_at "dm"; exact p
  | _ => cases hf
/-- what are_names is asked -/
def fAreNA : Bx → List D → (D → Prop) → Prop := fun B ds P => fAreN B ds P ∨ fAreNT B ds P ∨ fAreN1 B ds P
end
end KL

set_option maxHeartbeats 4000000
namespace KL
open PySem PySem.Spec PyProof.Rows L2 RZ XE TL DL RD RE XA XB XC XD XK
local macro_rules | `(tactic| walk_at "dl1") => `(tactic| first
  | with_reducible refine rn_seq ?_
  | with_reducible refine rn_if ?_
  | with_reducible refine rn_ret ?_
  | with_reducible refine rn_set ?_
  | with_reducible refine rn_drop ?_
  | with_reducible refine rn_next ?_
  | with_reducible refine et_test ?_
  | with_reducible refine et_B ?_
  | with_reducible refine et_not ?_
  | with_reducible refine et_and ?_
  | with_reducible refine et_or ?_
  | ((with_reducible refine' ev_var ?k1 ?_); (case k1 => exact rfl))
  | with_reducible refine ev_int ?_
  | with_reducible refine ev_str ?_
  | with_reducible refine ev_bl ?_
  | with_reducible refine ev_non ?_
  | with_reducible refine ev_ty ?_
  | with_reducible refine ea_nil ?_
  | with_reducible refine ea_cons ?_
  | with_reducible refine ev_andV ?_
  | with_reducible refine ev_orV ?_
  | with_reducible refine ev_notV ?_
  | with_reducible refine ev_chain ?_
  | with_reducible refine ev_len ?_
  | with_reducible refine ev_all ?_
  | with_reducible refine ev_join ?_
  | with_reducible refine ev_I0 ?_
  | with_reducible refine ev_B0 ?_
  | with_reducible refine ev_I ?_
  | with_reducible refine ev_eq ?_
  | with_reducible refine ev_ne ?_
  | with_reducible refine ev_isN ?_
  | with_reducible refine ev_notN ?_
  | with_reducible refine ev_tup ?_
  | with_reducible refine ev_lst ?_
  | with_reducible refine ev_ix ?_
  | with_reducible refine ev_cat ?_
  | with_reducible refine ev_rep ?_
  | with_reducible refine ev_mulS ?_
  | with_reducible refine ev_add_str ?_
  | with_reducible refine ev_slS ?_
  | with_reducible refine ev_slL ?_
  | with_reducible refine eo_none ?_
  | with_reducible refine eo_some ?_
  | with_reducible refine ev_in_sign ?_
  | with_reducible refine ev_is ?_
  | refine ev_is2 (m := .list) (m' := .tuple) ?_
  | with_reducible refine ev_call ?_)
local macro_rules | `(tactic| walk_at "dl2") => `(tactic| first
  | (refine ⟨_, rfl, ?_⟩; done)
  | (with_reducible refine ⟨_, rfl, ?_⟩)
  | (with_reducible refine ⟨_, _, rfl, rfl, ?_⟩)
  | (refine ⟨_, .str, rfl, rfl, ?_⟩)
  | (refine ⟨_, .int, rfl, rfl, ?_⟩)
  | (refine ⟨_, .bool, rfl, rfl, ?_⟩)
  | (refine ⟨_, .list, rfl, rfl, ?_⟩)
  | (refine ⟨_, .tuple, rfl, rfl, ?_⟩)
  | (refine ⟨rfl, _, rfl, ?_⟩)
  | (refine iT rfl ?_)
  | (refine iF rfl ?_))
local macro_rules | `(tactic| walk_at "dl4") => `(tactic| first
  | with_reducible refine ev_tupleOf ?_
  | with_reducible refine rn_par ?_
  | with_reducible refine ev_ifE ?_
  | with_reducible refine ev_strA ?_
  | with_reducible refine ev_neg ?_
  | with_reducible refine ev_fmt ?_
  | with_reducible refine ev_split ?_
  | with_reducible refine ev_eqP ?_
  | with_reducible refine ev_neP ?_
  | with_reducible refine ev_kin ?_
  | with_reducible refine ev_kix ?_
  | with_reducible refine ea_star ?_
  | with_reducible refine ev_inS ?_
  | with_reducible refine rw_next ?_
  | (with_reducible refine rw_seq ?_)
  | with_reducible refine rw_ret ?_
  | with_reducible refine ev_fld ?_
  | with_reducible refine ev_slT ?_
  | with_reducible refine ev_neg ?_
  | with_reducible refine ev_int1 ?_
  | with_reducible refine ev_dget ?_
  | with_reducible refine ev_catT ?_
  | with_reducible refine rn_par3 ?_
  | with_reducible refine ev_ref ?_)
local macro_rules | `(tactic| walk_at "dn") => `(tactic| repeat first | walk_at "dl1" | walk_at "dl4" | walk_at "dl2")
local macro_rules | `(tactic| walk_at "dl3") => `(tactic| first
  | (refine ⟨rfl, fun _ e => (by cases e <;> first | omega | decide), ?_⟩)
  | (refine ⟨small_n (Nat.le_of_ble_eq_true rfl), ?_⟩)
  | (refine ⟨_, _, _, rfl, rfl, ?_⟩)
  | (refine ⟨rfl, _, _, _, rfl, rfl, ?_⟩)
  | (refine ⟨rfl, _, _, rfl, rfl, (by decide), (by decide), ?_⟩)
  | (refine ⟨(show CPow _ _ from ⟨by decide, by decide, by decide⟩), ?_⟩)
  | (refine ⟨(show CMul _ _ from .inl ⟨by decide, by decide⟩), ?_⟩)
  | with_reducible refine et_yes ?_)
local macro_rules | `(tactic| walk_at "pl") => `(tactic| first
  | exact Pl.bl _ | exact Pl.int _ | exact Pl.str _ | exact Pl.non
  | refine Pl.ofL ?_ (Nat.le_of_ble_eq_true rfl) | refine Pl.ofT ?_ (Nat.le_of_ble_eq_true rfl)
  | exact PlL.nil | refine PlL.cons ?_ ?_)
local macro_rules | `(tactic| walk_at "dm") => `(tactic| repeat first | walk_at "dl1" | walk_at "dl4" | walk_at "dl2" | walk_at "dl3")
local macro_rules | `(tactic| walk_at "dl") => `(tactic| repeat first | walk_at "dl1" | walk_at "dl2" | walk_at "dl3")
section
variable {P : Program} {w : World} {K : PySem.W.Frag} {mg : Str → Option Value} {base : Heap} {a_copied : Addr} {a_as_items : Addr} {a_is_name : Addr} {a_is_number : Addr} {a_number_in : Addr} {a_is_test : Addr} {a_has_shape : Addr} {a_is_saying : Addr} {a_is_item : Addr} {a_sayings_in : Addr} {a_table_uses : Addr} {a_is_within_limits : Addr} {a_words_of : Addr} {a_word_at : Addr} {a_read_saying : Addr} {a_read_item : Addr} {a_read_test : Addr} {a_are_names : Addr} {a__law_box : Addr} {a__law_pull : Addr} {a__law_of : Addr} {a__law_words : Addr} {a__law_same : Addr} {a__law_field : Addr} {a__law_got : Addr} {a_OnceError : Addr} {a_InvalidNames : Addr} {a_InvalidSaying : Addr} {a_InvalidText : Addr} {a_Missing : Addr} {a_NothingLeft : Addr} {a_Question : Addr} {a_SHAPES : Addr} {a_TESTS : Addr} {t_DEEPEST_COPY : Tok} {t_LETTERS : Tok} {t_DIGITS : Tok} {t_LONGEST_NAME : Tok} {t_LONGEST_NUMBER : Tok} {t_MOST_FORMS : Tok} {t_MOST_DEEP : Tok} {t_MOST_SCOPE : Tok} {t_MOST_BOUND : Tok} {t_MOST_NAMES : Tok} 

/-! ### sayings, with names by number -/
/-- data with names by number: a name, something flat, a tuple, a list -/
inductive Sy
  | nm (i : Nat)
  | at_ (d : D)
  | tp (xs : List Sy)
  | ls (xs : List Sy)
mutual
def toD (ρ : Nat → Str) : Sy → D
  | .nm i => .str (ρ i)
  | .at_ d => d
  | .tp xs => .tup (toDs ρ xs)
  | .ls xs => .lst (toDs ρ xs)
def toDs (ρ : Nat → Str) : List Sy → List D
  | [] => []
  | x :: xs => toD ρ x :: toDs ρ xs
end
theorem toDs_map (ρ : Nat → Str) : ∀ xs : List Sy, toDs ρ xs = xs.map (toD ρ)
  | [] => rfl
  | x :: xs => by
    show toD ρ x :: toDs ρ xs = toD ρ x :: xs.map (toD ρ)
    rw [toDs_map ρ xs]
/-- what stands at a place of a form -/
inductive Kq
  | table | name | new | saying | test | steps
  deriving DecidableEq
def Kq.s : Kq → Str
  | .table => "table"
  | .name => "name"
  | .new => "new"
  | .saying => "saying"
  | .test => "test"
  | .steps => "steps"
def shapesQ : List (Str × List Kq) := [("has", [.table, .name]), ("link", [.table, .name, .name]), ("same", [.name, .name]), ("less", [.name, .name]), ("not", [.saying]), ("and", [.saying, .saying]), ("or", [.saying, .saying]), ("some", [.new, .saying]), ("all", [.new, .saying]), ("count", [.new, .test, .saying]), ("way", [.new, .new, .saying, .name, .name]), ("within", [.steps, .new, .new, .saying, .name, .name])]
def shapeAt (z : Str) : Option (List Kq) := (shapesQ.find? fun p => decide (p.1 = z)).map (·.2)
/-- has_shape: none where this model says nothing, some none for no, else the kinds and the items -/
def shapeS : Sy → Option (Option (Str × List Kq × List Sy))
  | .tp [] => some none
  | .tp (.at_ (.str z) :: xs) => match shapeAt z with
    | some ks => some (if xs.length = ks.length then some (z, ks, xs) else none)
    | none => if z = "maybe" then some none else none
  | .tp (.at_ .non :: _) => some none
  | .tp (.at_ (.bl _) :: _) => some none
  | .tp (.at_ (.int _) :: _) => some none
  | .tp _ => none
  | .at_ d => if flatD d then some none else none
  | _ => some none
def numS : Sy → Int → Int → Bool
  | .at_ d, lo, hi => numD d lo hi
  | _, _, _ => false
def testS : Sy → Option Bool
  | .tp [] => some false
  | .tp [_] => some false
  | .tp [.at_ (.str z), x] => some ((decide (z = "least") || decide (z = "most")) && numS x 0 8)
  | .tp [_, _] => none
  | .tp [.at_ (.str z), x, y] => if decide (z = "rest") && numS x 2 8 then (match x with | .at_ (.int i) => some (numS y 0 (i - 1)) | _ => none) else some false
  | .tp [_, _, _] => none
  | .tp _ => some false
  | .at_ d => if flatD d then some false else none
  | _ => some false
/-- what may stand in a scope: a name, flat things that are no names, tuples of flat things -/
def flatS : Sy → Bool
  | .nm _ => true
  | .at_ d => flatD d
  | _ => false
def okSc : Sy → Bool
  | .nm i => decide (i < 10)
  | .at_ d => flatD d && !nameD d
  | .tp xs => xs.all flatS
  | .ls _ => false
def isNm (i : Nat) : Sy → Bool
  | .nm j => decide (j = i)
  | _ => false
def anyNm : Sy → Bool
  | .nm j => decide (j < 10)
  | _ => false
def itemS (rec : Sy → List Sy → Option Bool) (k : Kq) (it : Sy) (sc inner : List Sy) : Option Bool :=
  match k with
  | .saying => rec it inner
  | .test => testS it
  | .steps => some (numS it 0 8)
  | k => match it with
    | .nm i => if i < 10 then (match k with
      | .name => if sc.all okSc then some (sc.any (isNm i)) else none
      | .table => some true
      | _ => if inner.all anyNm then some (decide (inner.countP (isNm i) = 1)) else none) else none
    | .at_ d => if flatD d && !nameD d then some false else none
    | _ => some false
def allO : List (Option Bool) → Option Bool
  | [] => some true
  | none :: _ => none
  | some b :: r => (allO r).map fun c => b && c
def newsS : List Sy → List Kq → List Sy
  | x :: xs, k :: ks => if k = .new then x :: newsS xs ks else newsS xs ks
  | _, _ => []
def itemsS (f : Kq → Sy → Option Bool) : List Sy → List Kq → List (Option Bool)
  | x :: xs, k :: ks => f k x :: itemsS f xs ks
  | _, _ => []
def sayS : Nat → Sy → List Sy → Option Bool
  | 0, _, _ => some false
  | n + 1, v, sc => match shapeS v with
    | none => none
    | some none => some false
    | some (some (_, ks, xs)) => if 6 < (sc ++ newsS xs ks).length then some false else allO (itemsS (fun k it => itemS (sayS n) k it sc (sc ++ newsS xs ks)) xs ks)
/-- the sayings in one, with fuel -/
def partsS : List Sy → List Kq → List Sy
  | x :: xs, k :: ks => if k = .saying then x :: partsS xs ks else partsS xs ks
  | _, _ => []
def mapO {α β : Type} (f : α → Option β) : List α → Option (List β)
  | [] => some []
  | x :: xs => match f x with
    | some y => (mapO f xs).map fun ys => y :: ys
    | none => none
theorem mapO_some {α β : Type} {f : α → Option β} {x : α} {xs : List α} {ys : List β} (h : mapO f (x :: xs) = some ys) : ∃ y zs, f x = some y ∧ mapO f xs = some zs ∧ ys = y :: zs := by
  unfold mapO at h
  cases e : f x with
  | none => rw [e] at h; cases h
  | some y =>
    rw [e] at h
    obtain ⟨zs, hz, e2⟩ := Option.map_eq_some_iff.mp h
    exact ⟨y, zs, rfl, hz, e2.symm⟩
theorem mapO_get {α β : Type} {f : α → Option β} : ∀ {xs : List α} {ys : List β}, mapO f xs = some ys → ys.length = xs.length ∧ ∀ (i : Nat) (x : α), xs[i]? = some x → ∃ y, ys[i]? = some y ∧ f x = some y
  | [], ys, h => by
    cases h
    exact ⟨rfl, fun i x hx => by simp at hx⟩
  | x0 :: xs, ys, h => by
    have h : (match f x0 with | some y => (mapO f xs).map (fun ys => y :: ys) | none => none) = some ys := h
    cases e : f x0 with
    | none => rw [e] at h; cases h
    | some y =>
      rw [e] at h
      obtain ⟨zs, hz, rfl⟩ := Option.map_eq_some_iff.mp h
      obtain ⟨l, g⟩ := mapO_get hz
      refine ⟨by rw [List.length_cons, List.length_cons, l], fun i x hx => ?_⟩
      cases i with
      | zero => cases hx; exact ⟨y, rfl, e⟩
      | succ i => exact g i x hx
def formsS : Nat → Sy → Option (List Sy)
  | 0, _ => none
  | n + 1, v => match shapeS v with
    | some (some (_, ks, xs)) => (mapO (formsS n) (partsS xs ks)).map fun ys => v :: ys.flatten
    | _ => none
/-- what a form says of a table -/
def useS : Sy → Option (List (Nat × Nat))
  | .tp (.at_ (.str z) :: xs) => if z = "has" || z = "link" then (match xs with | .nm i :: _ => some [(i, xs.length - 1)] | _ => none) else some []
  | _ => none
def usesS (fs : List Sy) : Option (List (Nat × Nat)) := (mapO useS fs).map List.flatten
/-- a question's saying is within its limits -/
def goodS (v : Sy) (sc : List Sy) : Bool := decide (sayS 6 v sc = some true) && (match formsS 7 v with
  | some fs => decide (fs.length ≤ 12) && (match usesS fs with
    | some us => decide (us.length ≤ 1)
    | none => false)
  | none => false)

def txtOk : D → Bool
  | .str z => decide (z.length ≤ 100) && PyData.strOk z
  | _ => true
mutual
def wfS : Sy → Bool
  | .nm _ => true
  | .at_ d => flatD d && txtOk d
  | .tp xs => decide (xs.length ≤ 100) && wfSs xs
  | .ls xs => decide (xs.length ≤ 100) && wfSs xs
def wfSs : List Sy → Bool
  | [] => true
  | x :: xs => wfS x && wfSs xs
end
mutual
def depS : Sy → Nat
  | .tp xs => depSs xs + 1
  | .ls xs => depSs xs + 1
  | _ => 0
def depSs : List Sy → Nat
  | [] => 0
  | x :: xs => max (depS x) (depSs xs)
end
theorem wfSs_mem : ∀ {xs : List Sy}, wfSs xs = true → ∀ x, x ∈ xs → wfS x = true
  | x :: xs, h, y, m => by
    have h : (wfS x && wfSs xs) = true := h
    rw [Bool.and_eq_true] at h
    rcases List.mem_cons.mp m with e | m
    · rw [e]; exact h.1
    · exact wfSs_mem h.2 y m
theorem depSs_mem : ∀ {xs : List Sy} {x : Sy}, x ∈ xs → depS x ≤ depSs xs
  | x :: xs, y, m => by
    show depS y ≤ max (depS x) (depSs xs)
    rcases List.mem_cons.mp m with e | m
    · rw [e]; omega
    · have := depSs_mem m; omega
structure Wf (s : Sy) : Prop where
  wf : wfS s = true
  dp : depS s ≤ 10
theorem Wf.tp {xs : List Sy} (h : Wf (.tp xs)) : xs.length ≤ 100 ∧ ∀ x, x ∈ xs → Wf x := by
  have h1 : (decide (xs.length ≤ 100) && wfSs xs) = true := h.wf
  have h2 : depSs xs + 1 ≤ 10 := h.dp
  rw [Bool.and_eq_true, decide_eq_true_eq] at h1
  exact ⟨h1.1, fun x m => ⟨wfSs_mem h1.2 x m, by have := depSs_mem m; omega⟩⟩
theorem Wf.ls {xs : List Sy} (h : Wf (.ls xs)) : xs.length ≤ 100 ∧ ∀ x, x ∈ xs → Wf x := by
  have h1 : (decide (xs.length ≤ 100) && wfSs xs) = true := h.wf
  have h2 : depSs xs + 1 ≤ 10 := h.dp
  rw [Bool.and_eq_true, decide_eq_true_eq] at h1
  exact ⟨h1.1, fun x m => ⟨wfSs_mem h1.2 x m, by have := depSs_mem m; omega⟩⟩
theorem Wf.at_ {d : D} (h : Wf (.at_ d)) : flatD d = true ∧ ∀ z, d = .str z → z.length ≤ 100 ∧ PyData.strOk z = true := by
  have h1 : (flatD d && txtOk d) = true := h.wf
  rw [Bool.and_eq_true] at h1
  refine ⟨h1.1, fun z e => ?_⟩
  subst e
  have h2 : (decide (z.length ≤ 100) && PyData.strOk z) = true := h1.2
  rw [Bool.and_eq_true, decide_eq_true_eq] at h2
  exact h2
/-- the names behind the numbers -/
structure Rho (ρ : Nat → Str) : Prop where
  nm : ∀ i, isNameS (ρ i) = true
  inj : ∀ i j, i < 10 → j < 10 → ρ i = ρ j → i = j
theorem flat_pl {d : D} (h : flatD d = true) : plD d = true ∧ dpD d = 0 ∧ ∃ n, tyD d = some n := by
  cases d with
  | non => exact ⟨rfl, rfl, _, rfl⟩
  | bl b => exact ⟨rfl, rfl, _, rfl⟩
  | int b => exact ⟨rfl, rfl, _, rfl⟩
  | str b => exact ⟨rfl, rfl, _, rfl⟩
  | _ => cases h
mutual
theorem sy_pl (ρ : Nat → Str) : ∀ s : Sy, wfS s = true → plD (toD ρ s) = true ∧ dpD (toD ρ s) ≤ depS s
  | .nm i, _ => ⟨rfl, Nat.zero_le _⟩
  | .at_ d, h => by
    have h1 : (flatD d && txtOk d) = true := h
    rw [Bool.and_eq_true] at h1
    have f := flat_pl h1.1
    exact ⟨f.1, by show dpD d ≤ 0; omega⟩
  | .tp xs, h => by
    have h1 : (decide (xs.length ≤ 100) && wfSs xs) = true := h
    rw [Bool.and_eq_true] at h1
    obtain ⟨a, b⟩ := sys_pl ρ xs h1.2
    exact ⟨a, Nat.succ_le_succ b⟩
  | .ls xs, h => by
    have h1 : (decide (xs.length ≤ 100) && wfSs xs) = true := h
    rw [Bool.and_eq_true] at h1
    obtain ⟨a, b⟩ := sys_pl ρ xs h1.2
    exact ⟨a, Nat.succ_le_succ b⟩
theorem sys_pl (ρ : Nat → Str) : ∀ xs : List Sy, wfSs xs = true → plDs (toDs ρ xs) = true ∧ dpDs (toDs ρ xs) ≤ depSs xs
  | [], _ => ⟨rfl, Nat.le_refl _⟩
  | x :: xs, h => by
    have h1 : (wfS x && wfSs xs) = true := h
    rw [Bool.and_eq_true] at h1
    obtain ⟨a, b⟩ := sy_pl ρ x h1.1
    obtain ⟨c, d⟩ := sys_pl ρ xs h1.2
    refine ⟨by show (plD (toD ρ x) && plDs (toDs ρ xs)) = true; rw [a, c]; rfl, ?_⟩
    show max (dpD (toD ρ x)) (dpDs (toDs ρ xs)) ≤ max (depS x) (depSs xs)
    omega
end
theorem sy_ty {ρ : Nat → Str} {s : Sy} (h : Wf s) : ∃ n, tyD (toD ρ s) = some n := by
  cases s with
  | nm i => exact ⟨_, rfl⟩
  | at_ d => exact (flat_pl h.at_.1).2.2
  | tp xs => exact ⟨_, rfl⟩
  | ls xs => exact ⟨_, rfl⟩
theorem name_short {z : Str} (h : isNameS z = true) : z.length ≤ 1000 := by
  unfold isNameS at h
  simp only [Bool.and_eq_true, decide_eq_true_eq] at h
  omega
theorem sy_okv {ρ : Nat → Str} (R : Rho ρ) {s : Sy} (h : Wf s) : OkV (toD ρ s) := by
  refine ⟨sy_ty h, fun z e => ?_⟩
  cases s with
  | nm i => cases e; exact name_short (R.nm i)
  | at_ d => exact Nat.le_trans (h.at_.2 z e).1 (by decide)
  | tp xs => cases e
  | ls xs => cases e
/-! ### the law's sayings -/
def tx (z : Str) : Sy := .at_ (.str z)
def i_ (i : Int) : Sy := .at_ (.int i)
def aS : Sy := .nm 3
def bS : Sy := .nm 4
def xS : Sy := .nm 5
def yS : Sy := .nm 6
def tS : Sy := .nm 0
def atomS : Sy := .tp [tx "same", aS, bS]
def linkS : Sy := .tp [tx "link", tS, xS, yS]
def oddS : List Sy := [.at_ .non, .at_ (.bl true), i_ 3, tx "", tx "A", .tp [i_ 1], xS]
def badS (o : Sy) (isx : Bool) : List Sy := [.tp [tx "has", tS], .tp [tx "has", tx "A1", aS], .tp [tx "has", tS, o], .tp [tx "link", tS, aS], .tp [tx "link", tS, aS, o], .tp [tx "same", aS], .tp [tx "same", o, aS], .tp [tx "less", aS, bS, aS], .tp [tx "not"], .tp [tx "not", atomS, atomS], .tp [tx "and", atomS], .tp [tx "or", atomS, o], .tp [tx "some", aS, atomS], .tp [tx "some", xS], .tp [tx "some", xS, .tp [tx "same", xS, yS]],
  if isx then .tp [tx "all"] else .tp [tx "all", o, .tp [tx "same", o, aS]], .tp [tx "all", xS, atomS, atomS], .tp [tx "count", xS, .tp [tx "least", i_ 9], atomS], .tp [tx "count", xS, .tp [tx "least"], atomS], .tp [tx "count", xS, .tp [tx "most", i_ (-1)], atomS], .tp [tx "count", xS, .tp [tx "rest", i_ 1, i_ 0], atomS], .tp [tx "count", xS, .tp [tx "rest", i_ 3, i_ 3], atomS], .tp [tx "count", xS, .tp [tx "rest", i_ 9, i_ 0], atomS], .tp [tx "count", xS, .tp [tx "most", .at_ (.bl true)], atomS], .tp [tx "count", xS, .ls [tx "most", i_ 1], atomS], .tp [tx "count", xS, .tp [tx "some", i_ 1], atomS], .tp [tx "count", aS, .tp [tx "most", i_ 1], atomS],
  .tp [tx "way", xS, xS, .tp [tx "has", tS, xS], aS, bS], .tp [tx "way", xS, yS, linkS, aS, xS], .tp [tx "way", xS, yS, linkS, aS], .tp [tx "way", aS, yS, .tp [tx "link", tS, aS, yS], aS, bS], .tp [tx "way", xS, yS, .tp [tx "same", xS, .nm 8], aS, bS], .tp [tx "within", i_ 9, xS, yS, linkS, aS, bS], .tp [tx "within", i_ (-1), xS, yS, linkS, aS, bS], .tp [tx "within", .at_ (.bl true), xS, yS, linkS, aS, bS], .tp [tx "within", xS, yS, linkS, aS, bS], .tp [tx "way", i_ 1, xS, yS, linkS, aS, bS], .ls [tx "same", aS, bS], .tp [], .tp [tx "maybe", aS], .tp [tx "same", aS, .ls [bS]], o]
def goodL : List Sy := [.tp [tx "has", tS, aS], .tp [tx "link", tS, aS, aS], .tp [tx "less", aS, aS], .tp [tx "count", xS, .tp [tx "most", i_ 0], atomS], .tp [tx "count", xS, .tp [tx "rest", i_ 8, i_ 7], .tp [tx "same", xS, aS]], .tp [tx "way", xS, yS, linkS, aS, aS], .tp [tx "within", i_ 0, xS, yS, .tp [tx "has", tS, yS], aS, bS], .tp [tx "and", .tp [tx "some", xS, .tp [tx "same", xS, aS]], .tp [tx "all", xS, .tp [tx "less", xS, bS]]], .tp [tx "within", i_ 8, yS, xS, linkS, bS, aS]]
def wrapS (v : Sy) : List Sy := [v, .tp [tx "not", v], .tp [tx "and", atomS, v], .tp [tx "or", v, atomS], .tp [tx "some", .nm 7, v]]
def oddI : List (Sy × Bool) := [(.at_ .non, false), (.at_ (.bl true), false), (i_ 3, false), (tx "", false), (tx "A", false), (.tp [i_ 1], false), (xS, true)]
theorem bad_wf : (oddI.all fun o => (badS o.1 o.2).all fun v => (wrapS v).all fun u => wfS u && decide (depS u ≤ 4)) = true := by decide +kernel
theorem good_wf : (goodL.all fun v => (wrapS v).all fun u => wfS u && decide (depS u ≤ 4)) = true := by decide +kernel
theorem bad_all : (oddI.all fun o => (badS o.1 o.2).all fun v => (wrapS v).all fun u => decide (sayS 6 u [aS, bS] = some false)) = true := by decide +kernel
theorem good_all : (goodL.all fun v => (wrapS v).all fun u => goodS u [aS, bS]) = true := by decide +kernel
end
end KL

set_option maxHeartbeats 4000000
namespace KL
open PySem PySem.Spec PyProof.Rows L2 RZ XE TL DL RD RE XA XB XC XD XK
local macro_rules | `(tactic| walk_at "dl1") => `(tactic| first
  | with_reducible refine rn_seq ?_
  | with_reducible refine rn_if ?_
  | with_reducible refine rn_ret ?_
  | with_reducible refine rn_set ?_
  | with_reducible refine rn_drop ?_
  | with_reducible refine rn_next ?_
  | with_reducible refine et_test ?_
  | with_reducible refine et_B ?_
  | with_reducible refine et_not ?_
  | with_reducible refine et_and ?_
  | with_reducible refine et_or ?_
  | ((with_reducible refine' ev_var ?k1 ?_); (case k1 => exact rfl))
  | with_reducible refine ev_int ?_
  | with_reducible refine ev_str ?_
  | with_reducible refine ev_bl ?_
  | with_reducible refine ev_non ?_
  | with_reducible refine ev_ty ?_
  | with_reducible refine ea_nil ?_
  | with_reducible refine ea_cons ?_
  | with_reducible refine ev_andV ?_
  | with_reducible refine ev_orV ?_
  | with_reducible refine ev_notV ?_
  | with_reducible refine ev_chain ?_
  | with_reducible refine ev_len ?_
  | with_reducible refine ev_all ?_
  | with_reducible refine ev_join ?_
  | with_reducible refine ev_I0 ?_
  | with_reducible refine ev_B0 ?_
  | with_reducible refine ev_I ?_
  | with_reducible refine ev_eq ?_
  | with_reducible refine ev_ne ?_
  | with_reducible refine ev_isN ?_
  | with_reducible refine ev_notN ?_
  | with_reducible refine ev_tup ?_
  | with_reducible refine ev_lst ?_
  | with_reducible refine ev_ix ?_
  | with_reducible refine ev_cat ?_
  | with_reducible refine ev_rep ?_
  | with_reducible refine ev_mulS ?_
  | with_reducible refine ev_add_str ?_
  | with_reducible refine ev_slS ?_
  | with_reducible refine ev_slL ?_
  | with_reducible refine eo_none ?_
  | with_reducible refine eo_some ?_
  | with_reducible refine ev_in_sign ?_
  | with_reducible refine ev_is ?_
  | refine ev_is2 (m := .list) (m' := .tuple) ?_
  | with_reducible refine ev_call ?_)
local macro_rules | `(tactic| walk_at "dl2") => `(tactic| first
  | (refine ⟨_, rfl, ?_⟩; done)
  | (with_reducible refine ⟨_, rfl, ?_⟩)
  | (with_reducible refine ⟨_, _, rfl, rfl, ?_⟩)
  | (refine ⟨_, .str, rfl, rfl, ?_⟩)
  | (refine ⟨_, .int, rfl, rfl, ?_⟩)
  | (refine ⟨_, .bool, rfl, rfl, ?_⟩)
  | (refine ⟨_, .list, rfl, rfl, ?_⟩)
  | (refine ⟨_, .tuple, rfl, rfl, ?_⟩)
  | (refine ⟨rfl, _, rfl, ?_⟩)
  | (refine iT rfl ?_)
  | (refine iF rfl ?_))
local macro_rules | `(tactic| walk_at "dl4") => `(tactic| first
  | with_reducible refine ev_tupleOf ?_
  | with_reducible refine rn_par ?_
  | with_reducible refine ev_ifE ?_
  | with_reducible refine ev_strA ?_
  | with_reducible refine ev_neg ?_
  | with_reducible refine ev_fmt ?_
  | with_reducible refine ev_split ?_
  | with_reducible refine ev_eqP ?_
  | with_reducible refine ev_neP ?_
  | with_reducible refine ev_kin ?_
  | with_reducible refine ev_kix ?_
  | with_reducible refine ea_star ?_
  | with_reducible refine ev_inS ?_
  | with_reducible refine rw_next ?_
  | (with_reducible refine rw_seq ?_)
  | with_reducible refine rw_ret ?_
  | with_reducible refine ev_fld ?_
  | with_reducible refine ev_slT ?_
  | with_reducible refine ev_neg ?_
  | with_reducible refine ev_int1 ?_
  | with_reducible refine ev_dget ?_
  | with_reducible refine ev_catT ?_
  | with_reducible refine rn_par3 ?_
  | with_reducible refine ev_ref ?_)
local macro_rules | `(tactic| walk_at "dn") => `(tactic| repeat first | walk_at "dl1" | walk_at "dl4" | walk_at "dl2")
local macro_rules | `(tactic| walk_at "dl3") => `(tactic| first
  | (refine ⟨rfl, fun _ e => (by cases e <;> first | omega | decide), ?_⟩)
  | (refine ⟨small_n (Nat.le_of_ble_eq_true rfl), ?_⟩)
  | (refine ⟨_, _, _, rfl, rfl, ?_⟩)
  | (refine ⟨rfl, _, _, _, rfl, rfl, ?_⟩)
  | (refine ⟨rfl, _, _, rfl, rfl, (by decide), (by decide), ?_⟩)
  | (refine ⟨(show CPow _ _ from ⟨by decide, by decide, by decide⟩), ?_⟩)
  | (refine ⟨(show CMul _ _ from .inl ⟨by decide, by decide⟩), ?_⟩)
  | with_reducible refine et_yes ?_)
local macro_rules | `(tactic| walk_at "pl") => `(tactic| first
  | exact Pl.bl _ | exact Pl.int _ | exact Pl.str _ | exact Pl.non
  | refine Pl.ofL ?_ (Nat.le_of_ble_eq_true rfl) | refine Pl.ofT ?_ (Nat.le_of_ble_eq_true rfl)
  | exact PlL.nil | refine PlL.cons ?_ ?_)
local macro_rules | `(tactic| walk_at "dm") => `(tactic| repeat first | walk_at "dl1" | walk_at "dl4" | walk_at "dl2" | walk_at "dl3")
local macro_rules | `(tactic| walk_at "dl") => `(tactic| repeat first | walk_at "dl1" | walk_at "dl2" | walk_at "dl3")
section
variable {P : Program} {w : World} {K : PySem.W.Frag} {mg : Str → Option Value} {base : Heap} {a_copied : Addr} {a_as_items : Addr} {a_is_name : Addr} {a_is_number : Addr} {a_number_in : Addr} {a_is_test : Addr} {a_has_shape : Addr} {a_is_saying : Addr} {a_is_item : Addr} {a_sayings_in : Addr} {a_table_uses : Addr} {a_is_within_limits : Addr} {a_words_of : Addr} {a_word_at : Addr} {a_read_saying : Addr} {a_read_item : Addr} {a_read_test : Addr} {a_are_names : Addr} {a__law_box : Addr} {a__law_pull : Addr} {a__law_of : Addr} {a__law_words : Addr} {a__law_same : Addr} {a__law_field : Addr} {a__law_got : Addr} {a_OnceError : Addr} {a_InvalidNames : Addr} {a_InvalidSaying : Addr} {a_InvalidText : Addr} {a_Missing : Addr} {a_NothingLeft : Addr} {a_Question : Addr} {a_SHAPES : Addr} {a_TESTS : Addr} {t_DEEPEST_COPY : Tok} {t_LETTERS : Tok} {t_DIGITS : Tok} {t_LONGEST_NAME : Tok} {t_LONGEST_NUMBER : Tok} {t_MOST_FORMS : Tok} {t_MOST_DEEP : Tok} {t_MOST_SCOPE : Tok} {t_MOST_BOUND : Tok} {t_MOST_NAMES : Tok} 

/-! ### has_shape, is_test -/
theorem cutD_from1 (d : D) (xs : List D) : DL.cutD (d :: xs) (some 1) none = xs := by
  unfold DL.cutD
  first
    | (rw [HT.sIx_none, show (1 : Int) = ((1 : Nat) : Int) from rfl, HT.sIx_nat]; simp)
    | simp [HT.sIx]
theorem tup_ne_nil (d : D) (ds : List D) : PyData.eqv (pyD (.tup (d :: ds))) (pyD (.tup [])) = false := by simp [pyD, pyDs, PyData.eqv, PyData.eqvAll]
theorem item_c0 (d : D) (ds : List D) : itemD (.tup (d :: ds)) (.int 0) = some d := by
  show atI (d :: ds) (0 : Int) = some d
  rw [show (0 : Int) = ((0 : Nat) : Int) from rfl, atI_nat (v := d) rfl]
/-- the table of shapes -/
structure ShQ (K : PySem.W.Frag) (w : World) (a : Addr) : Prop where
  at_ : ∀ p, p ∈ shapesQ → ∃ v, KD K w a p.1 (some v) ∧ KTup K v ((p.2.map Kq.s).map V.str)
  no : KD K w a "maybe" none
theorem ShQ.of {K : PySem.W.Frag} {w : World} {a : Addr} (S : ShQ K w a) {z : Str} {ks : List Kq} (h : shapeAt z = some ks) : ∃ v, KD K w a z (some v) ∧ KTup K v ((ks.map Kq.s).map V.str) := by
  unfold shapeAt at h
  obtain ⟨p, hp, rfl⟩ := Option.map_eq_some_iff.mp h
  have e := List.find?_some hp
  have m := List.mem_of_find?_eq_some hp
  rw [decide_eq_true_eq] at e
  obtain ⟨v, h1, h2⟩ := S.at_ p m
  rw [e] at h1
  exact ⟨v, h1, h2⟩
theorem shape_len {z : Str} {ks : List Kq} (h : shapeAt z = some ks) : ks.length ≤ 6 := by
  unfold shapeAt at h
  obtain ⟨p, hp, rfl⟩ := Option.map_eq_some_iff.mp h
  have m := List.mem_of_find?_eq_some hp
  have all : (shapesQ.all fun p => decide (p.2.length ≤ 6)) = true := by decide
  exact of_decide_eq_true (List.all_eq_true.mp all p m)
def fShape (ρ : Nat → Str) : Bx → List D → (D → Prop) → Prop := fun _ ds P => ∃ (s : Sy) (r : Option (Str × List Kq × List Sy)), ds = [toD ρ s] ∧ Wf s ∧ shapeS s = some r ∧ P (.bl r.isSome)
theorem ok_has_shape {ρ : Nat → Str} {fd : FuncData} (F : Fun K "has_shape" "has_shape" s_has_shape a_has_shape fd) (T : Txt K mg a_copied a_as_items a_is_name a_is_number a_number_in a_is_test a_has_shape a_is_saying a_is_item a_sayings_in a_table_uses a_is_within_limits a_words_of a_word_at a_read_saying a_read_item a_read_test a_are_names a__law_box a__law_pull a__law_of a__law_words a__law_same a__law_field a__law_got a_OnceError a_InvalidNames a_InvalidSaying a_InvalidText a_Missing a_NothingLeft a_Question a_SHAPES a_TESTS t_DEEPEST_COPY t_LETTERS t_DIGITS t_LONGEST_NAME t_LONGEST_NUMBER t_MOST_FORMS t_MOST_DEEP t_MOST_SCOPE t_MOST_BOUND t_MOST_NAMES) (S : ShQ K w a_SHAPES) :
    FnOk P w K mg base CX0 1 a_has_shape fd ["value"] (SpD K 1 (fShape ρ)) := by
  refine F.ok sc_has_shape (fun vs H Q E h => h.1) (fun cdv A outer s H vs Q E hr h => ?_)
  obtain ⟨hl, B, M, ds, Pd, g, hd, ⟨v, r, rfl, wf, hs, p⟩, q⟩ := h
  refine ⟨_, (pss_cons (ps_if (PW.pt (pw_or (pt_not (pt_val (pe_callB call_isi (by rfl) T.n_isinstance (by decide +kernel) (pa_cons (pv 0) (pa_cons (pe_bltn (v := .ty "tuple") (u := .type "tuple") (by rfl) T.n_tuple (by decide +kernel) rfl) pa_nil))))) (pw_or (pt_cmpR (RD.op_eqP hr.units) (pv 0) (pe_tup pa_nil) (nomark _)) (pw_or1 (pt_not (pt_val (pe_callB call_isi (by rfl) T.n_isinstance (by decide +kernel) (pa_cons (pe_ix (ix_seqK K) (pv 0) pe_int (fun _ _ => rfl)) (pa_cons (pe_bltn (v := .ty "str") (u := .type "str") (by rfl) T.n_str (by decide +kernel) rfl) pa_nil)))))))))
 (pss_one (ps_ret pe_bl))
 pss_nil)
 (pss_one (ps_ret (pe_and (pe_cmpR RD.op_kin (pe_ix (ix_seqK K) (pv 0) pe_int (fun _ _ => rfl)) (pe_glob (v := .ref a_SHAPES) (by rfl) T.k_SHAPES rfl) rfl) (pe_one (pe_cmpR op_eq (pe_callB call_len (by rfl) T.n_len PySem.boot_len (pa_cons (pv 0) pa_nil)) (pe_op op_add (pe_callB call_len (by rfl) T.n_len PySem.boot_len (pa_cons (pe_ix (RD.ix_kdK K w) (pe_glob (v := .ref a_SHAPES) (by rfl) T.k_SHAPES rfl) (pe_ix (ix_seqK K) (pv 0) pe_int (fun _ _ => rfl)) (fun _ _ => rfl)) pa_nil)) pe_int) (nomark _))))))), ?_⟩
  refine run_body g hd q ?_
  try dsimp only [cxOf]
  have pl := sy_pl ρ v wf.wf
  have dp := wf.dp
  cases v with
  | nm i => cases hs; walk_at "dm"; exact p
  | ls xs => cases hs; walk_at "dm"; exact p
  | at_ d =>
    have f := wf.at_.1
    have hs : (if flatD d then some none else none) = some r := hs
    rw [if_pos f] at hs
    cases hs
    cases d with
    | non => walk_at "dm"; exact p
    | bl b => walk_at "dm"; exact p
    | int b => walk_at "dm"; exact p
    | str b => walk_at "dm"; exact p
    | _ => cases f
  | tp xs =>
    cases xs with
    | nil =>
      cases hs
      walk_at "dm"
      refine ⟨rfl, rfl, Nat.le_of_ble_eq_true rfl, _, rfl, iT rfl ?_⟩
      walk_at "dm"
      exact p
    | cons x xs =>
      have pl1 : plD (.tup (toD ρ x :: toDs ρ xs)) = true := pl.1
      have dp1 : dpD (.tup (toD ρ x :: toDs ρ xs)) ≤ 50 := by
        have h2 : dpD (toD ρ (.tp (x :: xs))) ≤ depS (.tp (x :: xs)) := pl.2
        exact Nat.le_trans h2 (by omega)
      have e0 : PyData.eqv (pyD (toD ρ (.tp (x :: xs)))) (pyD (.tup [])) = false := tup_ne_nil _ _
      have xlen : xs.length ≤ 100 := by
        have := wf.tp.1
        rw [List.length_cons] at this
        omega
      cases x with
      | nm i => cases hs
      | tp ys => cases hs
      | ls ys => cases hs
      | at_ d =>
        cases d with
        | non =>
          cases hs
          walk_at "dm"
          refine ⟨pl1, rfl, dp1, _, rfl, ?_⟩
          rw [e0]
          refine iF rfl ?_
          walk_at "dm"
          refine ⟨_, item_c0 _ _, ?_⟩
          walk_at "dm"
          exact p
        | bl b =>
          cases hs
          walk_at "dm"
          refine ⟨pl1, rfl, dp1, _, rfl, ?_⟩
          rw [e0]
          refine iF rfl ?_
          walk_at "dm"
          refine ⟨_, item_c0 _ _, ?_⟩
          walk_at "dm"
          exact p
        | int b =>
          cases hs
          walk_at "dm"
          refine ⟨pl1, rfl, dp1, _, rfl, ?_⟩
          rw [e0]
          refine iF rfl ?_
          walk_at "dm"
          refine ⟨_, item_c0 _ _, ?_⟩
          walk_at "dm"
          exact p
        | str z =>
          walk_at "dm"
          refine ⟨pl1, rfl, dp1, _, rfl, ?_⟩
          rw [e0]
          refine iF rfl ?_
          walk_at "dm"
          refine ⟨_, item_c0 _ _, ?_⟩
          walk_at "dm"
          refine ⟨_, item_c0 _ _, ?_⟩
          walk_at "dm"
          have hs : (match shapeAt z with | some ks => some (if xs.length = ks.length then some (z, ks, xs) else none) | none => if z = "maybe" then some none else none) = some r := hs
          cases e : shapeAt z with
          | none =>
            rw [e] at hs
            have hs : (if z = "maybe" then some none else none) = some r := hs
            by_cases c : z = "maybe"
            · rw [if_pos c] at hs
              cases hs
              subst c
              refine ⟨_, _, _, rfl, rfl, S.no, ?_⟩
              exact ⟨_, rfl, iF rfl p⟩
            · rw [if_neg c] at hs
              cases hs
          | some ks =>
            rw [e] at hs
            cases hs
            obtain ⟨v, kd, kt⟩ := S.of e
            refine ⟨_, _, _, rfl, rfl, kd, _, rfl, iT rfl ?_⟩
            walk_at "dm"
            refine ⟨_, item_c0 _ _, _, _, v, _, rfl, rfl, kd, kt.den, ea_nil ⟨_, ks.length, rfl, ?_, ev_int ⟨_, _, rfl, rfl, _, rfl, ?_⟩⟩⟩
            · show some (((ks.map Kq.s).map D.str).length) = some ks.length
              rw [List.length_map, List.length_map]
            have el : (toDs ρ (.at_ (.str z) :: xs)).length = xs.length + 1 := by rw [toDs_map, List.length_map, List.length_cons]
            have eb : decide (((toDs ρ (.at_ (.str z) :: xs)).length : Int) = (ks.length : Int) + 1) = (if xs.length = ks.length then some (z, ks, xs) else none : Option (Str × List Kq × List Sy)).isSome := by
              rw [el]
              by_cases c : xs.length = ks.length
              · rw [if_pos c, decide_eq_true (by omega)]; rfl
              · rw [if_neg c, decide_eq_false (by omega)]; rfl
            exact eb ▸ p
        | _ => cases hs
theorem item_c1 (d e : D) (ds : List D) : itemD (.tup (d :: e :: ds)) (.int 1) = some e := by
  show atI (d :: e :: ds) (1 : Int) = some e
  rw [show (1 : Int) = ((1 : Nat) : Int) from rfl, atI_nat (v := e) rfl]
theorem item_c2 (d e f : D) (ds : List D) : itemD (.tup (d :: e :: f :: ds)) (.int 2) = some f := by
  show atI (d :: e :: f :: ds) (2 : Int) = some f
  rw [show (2 : Int) = ((2 : Nat) : Int) from rfl, atI_nat (v := f) rfl]
theorem numS_D {ρ : Nat → Str} (s : Sy) (lo hi : Int) : numD (toD ρ s) lo hi = numS s lo hi := by
  cases s <;> rfl
theorem str_beq (a b : Str) : (a == b) = decide (b = a) := by
  rw [Bool.eq_iff_iff, beq_iff_eq, decide_eq_true_iff]
  exact eq_comm
def fTest (ρ : Nat → Str) : Bx → List D → (D → Prop) → Prop := fun _ ds P => ∃ (s : Sy) (b : Bool), ds = [toD ρ s] ∧ Wf s ∧ testS s = some b ∧ P (.bl b)
theorem ok_is_test {ρ : Nat → Str} {fd : FuncData} (F : Fun K "is_test" "is_test" s_is_test a_is_test fd) (T : Txt K mg a_copied a_as_items a_is_name a_is_number a_number_in a_is_test a_has_shape a_is_saying a_is_item a_sayings_in a_table_uses a_is_within_limits a_words_of a_word_at a_read_saying a_read_item a_read_test a_are_names a__law_box a__law_pull a__law_of a__law_words a__law_same a__law_field a__law_got a_OnceError a_InvalidNames a_InvalidSaying a_InvalidText a_Missing a_NothingLeft a_Question a_SHAPES a_TESTS t_DEEPEST_COPY t_LETTERS t_DIGITS t_LONGEST_NAME t_LONGEST_NUMBER t_MOST_FORMS t_MOST_DEEP t_MOST_SCOPE t_MOST_BOUND t_MOST_NAMES) (C_is_number : Cal P w K mg base 1 a_is_number ["value", "least", "most"] (SpD K 3 fIsNum)) :
    FnOk P w K mg base CX0 2 a_is_test fd ["value"] (SpD K 1 (fTest ρ)) := by
  obtain ⟨fd_is_number, G_is_number, kp_is_number, b_is_number⟩ := C_is_number.ex
  refine F.ok sc_is_test (fun vs H Q E h => h.1) (fun cdv A outer s H vs Q E hr h => ?_)
  obtain ⟨hl, B, M, ds, Pd, g, hd, ⟨v, b0, rfl, wf, hs, p⟩, q⟩ := h
  refine ⟨_, (pss_cons (ps_if (pt_not (pt_val (pe_callB call_isi (by rfl) T.n_isinstance (by decide +kernel) (pa_cons (pv 0) (pa_cons (pe_bltn (v := .ty "tuple") (u := .type "tuple") (by rfl) T.n_tuple (by decide +kernel) rfl) pa_nil)))))
 (pss_one (ps_ret pe_bl))
 pss_nil)
 (pss_cons (ps_if (pt_cmpR op_eq (pe_callB call_len (by rfl) T.n_len PySem.boot_len (pa_cons (pv 0) pa_nil)) pe_int (nomark _))
 (pss_one (ps_ret (pe_and (pe_cmpR op_in_seq (pe_ix (ix_seqK K) (pv 0) pe_int (fun _ _ => rfl)) (pe_tup (pa_cons pe_str (pa_cons pe_str pa_nil))) rfl) (pe_one (pe_call G_is_number (hr.mono (by omega)) (by rfl) T.m_is_number kp_is_number b_is_number .nil pass0 (pa_cons (pe_ix (ix_seqK K) (pv 0) pe_int (fun _ _ => rfl)) (pa_cons pe_int (pa_cons (pe_glob (v := .int 8) (by rfl) T.c_MOST_BOUND ⟨_, rfl⟩) pa_nil))))))))
 pss_nil)
 (pss_cons (ps_if (PW.pt (pw_or (pt_cmpR op_ne (pe_callB call_len (by rfl) T.n_len PySem.boot_len (pa_cons (pv 0) pa_nil)) pe_int (nomark _)) (pw_or (pt_cmpR op_ne (pe_ix (ix_seqK K) (pv 0) pe_int (fun _ _ => rfl)) pe_str (nomark _)) (pw_or1 (pt_not (pt_val (pe_call G_is_number (hr.mono (by omega)) (by rfl) T.m_is_number kp_is_number b_is_number .nil pass0 (pa_cons (pe_ix (ix_seqK K) (pv 0) pe_int (fun _ _ => rfl)) (pa_cons pe_int (pa_cons (pe_glob (v := .int 8) (by rfl) T.c_MOST_BOUND ⟨_, rfl⟩) pa_nil))))))))))
 (pss_one (ps_ret pe_bl))
 pss_nil)
 (pss_one (ps_ret (pe_call G_is_number (hr.mono (by omega)) (by rfl) T.m_is_number kp_is_number b_is_number .nil pass0 (pa_cons (pe_ix (ix_seqK K) (pv 0) pe_int (fun _ _ => rfl)) (pa_cons pe_int (pa_cons (pe_op op_sub (pe_ix (ix_seqK K) (pv 0) pe_int (fun _ _ => rfl)) pe_int) pa_nil))))))))), ?_⟩
  refine run_body g hd q ?_
  try dsimp only [cxOf]
  cases v with
  | nm i => cases hs; walk_at "dm"; exact p
  | ls xs => cases hs; walk_at "dm"; exact p
  | at_ d =>
    have f := wf.at_.1
    have hs : (if flatD d then some false else none) = some b0 := hs
    rw [if_pos f] at hs
    cases hs
    cases d with
    | non => walk_at "dm"; exact p
    | bl b => walk_at "dm"; exact p
    | int b => walk_at "dm"; exact p
    | str b => walk_at "dm"; exact p
    | _ => cases f
  | tp xs =>
    obtain ⟨hz, wx⟩ := wf.tp
    match xs, hs, hz, wx, hd with
    | [], hs, _, _, hd =>
      cases hs
      walk_at "dm"
      exact p
    | [x], hs, _, _, hd =>
      cases hs
      walk_at "dm"
      exact p
    | x :: y :: z :: u :: xs, hs, hz, _, hd =>
      have e : b0 = false := by cases x <;> first | (cases hs; rfl) | (rename_i d; cases d <;> (cases hs; rfl))
      subst e
      walk_at "dm"
      exact p
    | [x, y], hs, _, wx, hd =>
      have wy := wx y (by simp)
      cases x with
      | nm i => cases hs
      | tp ys => cases hs
      | ls ys => cases hs
      | at_ d =>
        cases d with
        | str z =>
          have hs : some ((decide (z = "least") || decide (z = "most")) && numS y 0 8) = some b0 := hs
          cases hs
          walk_at "dm"
          have hk : inV (V.str z) [V.str "least", V.str "most"] = (decide (z = "least") || decide (z = "most")) := by
            show ((("least" : Str) == z) || ((("most" : Str) == z) || false)) = _
            rw [Bool.or_false, str_beq, str_beq]
          refine ⟨_, .inl rfl, rfl, rfl, _, rfl, ?_⟩
          show if inV (V.str z) [V.str "least", V.str "most"] = true then _ else _
          rw [hk]
          refine i2 (fun c => ?_) (fun c => ?_)
          · rw [c, Bool.true_and] at p
            walk_at "dm"
            refine ⟨rfl, _, 0, 8, rfl, sy_ty wy, ?_⟩
            rw [numS_D]
            exact p
          · rw [c] at p
            exact p
        | _ => cases hs
    | [x, y, z], hs, _, wx, hd =>
      have wy := wx y (by simp)
      have wz := wx z (by simp)
      cases x with
      | nm i => cases hs
      | tp ys => cases hs
      | ls ys => cases hs
      | at_ d =>
        cases d with
        | str u =>
          simp only [testS] at hs
          walk_at "dm"
          refine i2 (fun c => ?_) (fun c => ?_)
          · have c : decide (u = "rest") = false := by simpa using c
            rw [c] at hs
            cases hs
            walk_at "dm"
            exact p
          · have c : decide (u = "rest") = true := by simpa using c
            rw [c, Bool.true_and] at hs
            walk_at "dm"
            refine ⟨rfl, _, 2, 8, rfl, sy_ty wy, ?_⟩
            rw [numS_D]
            refine ⟨_, rfl, ?_⟩
            cases e : numS y 2 8 with
            | false =>
              rw [e] at hs
              cases hs
              refine iT rfl ?_
              walk_at "dm"
              exact p
            | true =>
              rw [e] at hs
              cases y with
              | at_ d =>
                cases d with
                | int i =>
                  cases hs
                  refine iF rfl ?_
                  walk_at "dm"
                  refine ⟨rfl, _, 0, _, rfl, sy_ty wz, ?_⟩
                  rw [numS_D]
                  exact p
                | _ => cases hs
              | _ => cases hs
        | _ => cases hs
end
end KL

set_option maxHeartbeats 4000000
namespace KL
open PySem PySem.Spec PyProof.Rows L2 RZ XE TL DL RD RE XA XB XC XD XK
local macro_rules | `(tactic| walk_at "dl1") => `(tactic| first
  | with_reducible refine rn_seq ?_
  | with_reducible refine rn_if ?_
  | with_reducible refine rn_ret ?_
  | with_reducible refine rn_set ?_
  | with_reducible refine rn_drop ?_
  | with_reducible refine rn_next ?_
  | with_reducible refine et_test ?_
  | with_reducible refine et_B ?_
  | with_reducible refine et_not ?_
  | with_reducible refine et_and ?_
  | with_reducible refine et_or ?_
  | ((with_reducible refine' ev_var ?k1 ?_); (case k1 => exact rfl))
  | with_reducible refine ev_int ?_
  | with_reducible refine ev_str ?_
  | with_reducible refine ev_bl ?_
  | with_reducible refine ev_non ?_
  | with_reducible refine ev_ty ?_
  | with_reducible refine ea_nil ?_
  | with_reducible refine ea_cons ?_
  | with_reducible refine ev_andV ?_
  | with_reducible refine ev_orV ?_
  | with_reducible refine ev_notV ?_
  | with_reducible refine ev_chain ?_
  | with_reducible refine ev_len ?_
  | with_reducible refine ev_all ?_
  | with_reducible refine ev_join ?_
  | with_reducible refine ev_I0 ?_
  | with_reducible refine ev_B0 ?_
  | with_reducible refine ev_I ?_
  | with_reducible refine ev_eq ?_
  | with_reducible refine ev_ne ?_
  | with_reducible refine ev_isN ?_
  | with_reducible refine ev_notN ?_
  | with_reducible refine ev_tup ?_
  | with_reducible refine ev_lst ?_
  | with_reducible refine ev_ix ?_
  | with_reducible refine ev_cat ?_
  | with_reducible refine ev_rep ?_
  | with_reducible refine ev_mulS ?_
  | with_reducible refine ev_add_str ?_
  | with_reducible refine ev_slS ?_
  | with_reducible refine ev_slL ?_
  | with_reducible refine eo_none ?_
  | with_reducible refine eo_some ?_
  | with_reducible refine ev_in_sign ?_
  | with_reducible refine ev_is ?_
  | refine ev_is2 (m := .list) (m' := .tuple) ?_
  | with_reducible refine ev_call ?_)
local macro_rules | `(tactic| walk_at "dl2") => `(tactic| first
  | (refine ⟨_, rfl, ?_⟩; done)
  | (with_reducible refine ⟨_, rfl, ?_⟩)
  | (with_reducible refine ⟨_, _, rfl, rfl, ?_⟩)
  | (refine ⟨_, .str, rfl, rfl, ?_⟩)
  | (refine ⟨_, .int, rfl, rfl, ?_⟩)
  | (refine ⟨_, .bool, rfl, rfl, ?_⟩)
  | (refine ⟨_, .list, rfl, rfl, ?_⟩)
  | (refine ⟨_, .tuple, rfl, rfl, ?_⟩)
  | (refine ⟨rfl, _, rfl, ?_⟩)
  | (refine iT rfl ?_)
  | (refine iF rfl ?_))
local macro_rules | `(tactic| walk_at "dl4") => `(tactic| first
  | with_reducible refine ev_tupleOf ?_
  | with_reducible refine rn_par ?_
  | with_reducible refine ev_ifE ?_
  | with_reducible refine ev_strA ?_
  | with_reducible refine ev_neg ?_
  | with_reducible refine ev_fmt ?_
  | with_reducible refine ev_split ?_
  | with_reducible refine ev_eqP ?_
  | with_reducible refine ev_neP ?_
  | with_reducible refine ev_kin ?_
  | with_reducible refine ev_kix ?_
  | with_reducible refine ea_star ?_
  | with_reducible refine ev_inS ?_
  | with_reducible refine rw_next ?_
  | (with_reducible refine rw_seq ?_)
  | with_reducible refine rw_ret ?_
  | with_reducible refine ev_fld ?_
  | with_reducible refine ev_slT ?_
  | with_reducible refine ev_neg ?_
  | with_reducible refine ev_int1 ?_
  | with_reducible refine ev_dget ?_
  | with_reducible refine ev_catT ?_
  | with_reducible refine rn_par3 ?_
  | with_reducible refine ev_ref ?_)
local macro_rules | `(tactic| walk_at "dn") => `(tactic| repeat first | walk_at "dl1" | walk_at "dl4" | walk_at "dl2")
local macro_rules | `(tactic| walk_at "dl3") => `(tactic| first
  | (refine ⟨rfl, fun _ e => (by cases e <;> first | omega | decide), ?_⟩)
  | (refine ⟨small_n (Nat.le_of_ble_eq_true rfl), ?_⟩)
  | (refine ⟨_, _, _, rfl, rfl, ?_⟩)
  | (refine ⟨rfl, _, _, _, rfl, rfl, ?_⟩)
  | (refine ⟨rfl, _, _, rfl, rfl, (by decide), (by decide), ?_⟩)
  | (refine ⟨(show CPow _ _ from ⟨by decide, by decide, by decide⟩), ?_⟩)
  | (refine ⟨(show CMul _ _ from .inl ⟨by decide, by decide⟩), ?_⟩)
  | with_reducible refine et_yes ?_)
local macro_rules | `(tactic| walk_at "pl") => `(tactic| first
  | exact Pl.bl _ | exact Pl.int _ | exact Pl.str _ | exact Pl.non
  | refine Pl.ofL ?_ (Nat.le_of_ble_eq_true rfl) | refine Pl.ofT ?_ (Nat.le_of_ble_eq_true rfl)
  | exact PlL.nil | refine PlL.cons ?_ ?_)
local macro_rules | `(tactic| walk_at "dm") => `(tactic| repeat first | walk_at "dl1" | walk_at "dl4" | walk_at "dl2" | walk_at "dl3")
local macro_rules | `(tactic| walk_at "dl") => `(tactic| repeat first | walk_at "dl1" | walk_at "dl2" | walk_at "dl3")
section
variable {P : Program} {w : World} {K : PySem.W.Frag} {mg : Str → Option Value} {base : Heap} {a_copied : Addr} {a_as_items : Addr} {a_is_name : Addr} {a_is_number : Addr} {a_number_in : Addr} {a_is_test : Addr} {a_has_shape : Addr} {a_is_saying : Addr} {a_is_item : Addr} {a_sayings_in : Addr} {a_table_uses : Addr} {a_is_within_limits : Addr} {a_words_of : Addr} {a_word_at : Addr} {a_read_saying : Addr} {a_read_item : Addr} {a_read_test : Addr} {a_are_names : Addr} {a__law_box : Addr} {a__law_pull : Addr} {a__law_of : Addr} {a__law_words : Addr} {a__law_same : Addr} {a__law_field : Addr} {a__law_got : Addr} {a_OnceError : Addr} {a_InvalidNames : Addr} {a_InvalidSaying : Addr} {a_InvalidText : Addr} {a_Missing : Addr} {a_NothingLeft : Addr} {a_Question : Addr} {a_SHAPES : Addr} {a_TESTS : Addr} {t_DEEPEST_COPY : Tok} {t_LETTERS : Tok} {t_DIGITS : Tok} {t_LONGEST_NAME : Tok} {t_LONGEST_NUMBER : Tok} {t_MOST_FORMS : Tok} {t_MOST_DEEP : Tok} {t_MOST_SCOPE : Tok} {t_MOST_BOUND : Tok} {t_MOST_NAMES : Tok} 

/-! ### is_item, is_saying -/
def scD (ρ : Nat → Str) (b : Bool) (sc : List Sy) : D := if b = true then .lst (toDs ρ sc) else .tpz (toDs ρ sc)
structure Sco (sc : List Sy) : Prop where
  wf : ∀ y, y ∈ sc → Wf y
  len : sc.length ≤ 20
def fSay (ρ : Nat → Str) (n : Nat) : Bx → List D → (D → Prop) → Prop := fun _ ds P => ∃ (s : Sy) (b : Bool) (sc : List Sy) (r : Bool), ds = [toD ρ s, scD ρ b sc, .int (n : Nat)] ∧ Wf s ∧ Sco sc ∧ sayS n s sc = some r ∧ P (.bl r)
def fItem (ρ : Nat → Str) (n : Nat) : Bx → List D → (D → Prop) → Prop := fun _ ds P => ∃ (k : Kq) (it : Sy) (b : Bool) (sc inner : List Sy) (r : Bool), ds = [.str k.s, toD ρ it, scD ρ b sc, .tpz (toDs ρ inner), .int ((n : Int) + 1)] ∧ Wf it ∧ Sco sc ∧ Sco inner ∧ itemS (sayS n) k it sc inner = some r ∧ P (.bl r)
theorem letters_ok {z : Str} (h : isNameS z = true) : PyData.strOk z = true := by
  unfold isNameS at h
  rw [Bool.and_eq_true] at h
  have all : (lettersL.all fun c => decide (c < 0x110000)) = true := by decide
  unfold PyData.strOk
  rw [Array.all_eq_true']
  intro c hc
  have m : c ∈ lettersL := of_decide_eq_true (List.all_eq_true.mp h.2 c (by simpa using hc))
  exact List.all_eq_true.mp all c m
mutual
theorem sy_can {ρ : Nat → Str} (R : Rho ρ) : ∀ s : Sy, wfS s = true → (pyD (toD ρ s)).canLay0 = true
  | .nm i, _ => letters_ok (R.nm i)
  | .at_ d, h => by
    have h1 : (flatD d && txtOk d) = true := h
    rw [Bool.and_eq_true] at h1
    cases d with
    | str z =>
      have h2 : (decide (z.length ≤ 100) && PyData.strOk z) = true := h1.2
      rw [Bool.and_eq_true] at h2
      exact h2.2
    | lst ds => cases h1.1
    | tup ds => cases h1.1
    | _ => rfl
  | .tp xs, h => by
    have h1 : (decide (xs.length ≤ 100) && wfSs xs) = true := h
    rw [Bool.and_eq_true] at h1
    exact sys_can R xs h1.2
  | .ls xs, h => by
    have h1 : (decide (xs.length ≤ 100) && wfSs xs) = true := h
    rw [Bool.and_eq_true] at h1
    exact sys_can R xs h1.2
theorem sys_can {ρ : Nat → Str} (R : Rho ρ) : ∀ xs : List Sy, wfSs xs = true → PyData.canLayAll0 (pyDs (toDs ρ xs)) = true
  | [], _ => rfl
  | x :: xs, h => by
    have h1 : (wfS x && wfSs xs) = true := h
    rw [Bool.and_eq_true] at h1
    show (PyData.canLay0 (pyD (toD ρ x)) && PyData.canLayAll0 (pyDs (toDs ρ xs))) = true
    rw [sy_can R x h1.1, sys_can R xs h1.2]
    rfl
end
theorem sco_all {sc : List Sy} (h : Sco sc) : wfSs sc = true ∧ depSs sc ≤ 10 := by
  obtain ⟨h, hl⟩ := h
  clear hl
  induction sc with
  | nil => exact ⟨rfl, Nat.zero_le _⟩
  | cons x xs ih =>
    obtain ⟨a, b⟩ := ih fun y m => h y (List.mem_cons_of_mem _ m)
    have hx := h x List.mem_cons_self
    have := hx.dp
    exact ⟨by show (wfS x && wfSs xs) = true; rw [hx.wf, a]; rfl, by show max (depS x) (depSs xs) ≤ 10; omega⟩
def nmOf (ρ : Nat → Str) : Sy → Str
  | .nm j => ρ j
  | _ => Str.empty
theorem all_names {ρ : Nat → Str} : ∀ {xs : List Sy}, xs.all anyNm = true → toDs ρ xs = (xs.map (nmOf ρ)).map D.str
  | [], _ => rfl
  | x :: xs, h => by
    rw [List.all_cons, Bool.and_eq_true] at h
    cases x with
    | nm j =>
      show D.str (ρ j) :: toDs ρ xs = _
      rw [all_names h.2]; rfl
    | _ => cases h.1
theorem okSc_eqv {ρ : Nat → Str} (R : Rho ρ) {i : Nat} (hi : i < 10) {y : Sy} (h : okSc y = true) : PyData.eqv (pyD (toD ρ y)) (pyD (.str (ρ i))) = isNm i y := by
  cases y with
  | nm j =>
    have hj : j < 10 := of_decide_eq_true h
    show ((ρ j : Str) == ρ i) = decide (j = i)
    rw [str_beq]
    by_cases c : j = i
    · rw [c, decide_eq_true rfl, decide_eq_true rfl]
    · rw [decide_eq_false c, decide_eq_false fun e => c (R.inj i j hi hj e).symm]
  | at_ d =>
    have h : (flatD d && !nameD d) = true := h
    rw [Bool.and_eq_true, Bool.not_eq_true'] at h
    cases d with
    | str z =>
      show ((z : Str) == ρ i) = false
      rw [str_beq]
      refine decide_eq_false fun e => ?_
      have : nameD (.str z) = true := by rw [← e]; exact R.nm i
      rw [this] at h
      cases h.2
    | non => rfl
    | bl b => rfl
    | int b => rfl
    | _ => cases h.1
  | tp xs => rfl
  | ls xs => cases h
theorem any_in {ρ : Nat → Str} (R : Rho ρ) {i : Nat} (hi : i < 10) : ∀ {sc : List Sy}, sc.all okSc = true → ((pyDs (toDs ρ sc)).any fun z => PyData.eqv z (pyD (.str (ρ i)))) = sc.any (isNm i)
  | [], _ => rfl
  | y :: sc, h => by
    rw [List.all_cons, Bool.and_eq_true] at h
    show (PyData.eqv (pyD (toD ρ y)) (pyD (.str (ρ i))) || (pyDs (toDs ρ sc)).any fun z => PyData.eqv z (pyD (.str (ρ i)))) = (isNm i y || sc.any (isNm i))
    rw [okSc_eqv R hi h.1, any_in R hi h.2]
theorem count_in {ρ : Nat → Str} (R : Rho ρ) {i : Nat} (hi : i < 10) : ∀ {xs : List Sy}, xs.all anyNm = true → (((xs.map (nmOf ρ)).map V.str).countP fun z => eqV z (.str (ρ i))) = xs.countP (isNm i)
  | [], _ => rfl
  | x :: xs, h => by
    rw [List.all_cons, Bool.and_eq_true] at h
    rw [List.map_cons, List.map_cons, List.countP_cons, List.countP_cons, count_in R hi h.2]
    congr 1
    cases x with
    | nm j =>
      have hj : j < 10 := of_decide_eq_true h.1
      have e : eqV (.str (ρ j)) (.str (ρ i)) = isNm i (.nm j) := by
        show ((ρ j : Str) == ρ i) = decide (j = i)
        rw [str_beq]
        by_cases c : j = i
        · rw [c, decide_eq_true rfl, decide_eq_true rfl]
        · rw [decide_eq_false c, decide_eq_false fun e => c (R.inj i j hi hj e).symm]
      show (if eqV (.str (ρ j)) (.str (ρ i)) = true then 1 else 0) = _
      rw [e]
    | _ => cases h.1
theorem ok_is_item {ρ : Nat → Str} (R : Rho ρ) {n k0 : Nat} {fd : FuncData} (F : Fun K "is_item" "is_item" s_is_item a_is_item fd) (T : Txt K mg a_copied a_as_items a_is_name a_is_number a_number_in a_is_test a_has_shape a_is_saying a_is_item a_sayings_in a_table_uses a_is_within_limits a_words_of a_word_at a_read_saying a_read_item a_read_test a_are_names a__law_box a__law_pull a__law_of a__law_words a__law_same a__law_field a__law_got a_OnceError a_InvalidNames a_InvalidSaying a_InvalidText a_Missing a_NothingLeft a_Question a_SHAPES a_TESTS t_DEEPEST_COPY t_LETTERS t_DIGITS t_LONGEST_NAME t_LONGEST_NUMBER t_MOST_FORMS t_MOST_DEEP t_MOST_SCOPE t_MOST_BOUND t_MOST_NAMES) (hk0 : 2 ≤ k0) (C_is_name : Cal P w K mg base 1 a_is_name ["value"] (SpD K 1 fIsNm))
    (C_is_saying : Cal P w K mg base k0 a_is_saying ["value", "scope", "deep"] (SpD K 3 (fSay ρ n))) (C_is_test : Cal P w K mg base 2 a_is_test ["value"] (SpD K 1 (fTest ρ))) (C_is_number : Cal P w K mg base 1 a_is_number ["value", "least", "most"] (SpD K 3 fIsNum)) :
    FnOk P w K mg base CX0 (k0 + 1) a_is_item fd ["kind", "item", "scope", "inner", "deep"] (SpD K 5 (fItem ρ n)) := by
  obtain ⟨fd_is_name, G_is_name, kp_is_name, b_is_name⟩ := C_is_name.ex
  obtain ⟨fd_is_saying, G_is_saying, kp_is_saying, b_is_saying⟩ := C_is_saying.ex
  obtain ⟨fd_is_test, G_is_test, kp_is_test, b_is_test⟩ := C_is_test.ex
  obtain ⟨fd_is_number, G_is_number, kp_is_number, b_is_number⟩ := C_is_number.ex
  refine F.ok sc_is_item (fun vs H Q E h => h.1) (fun cdv A outer s H vs Q E hr h => ?_)
  obtain ⟨hl, B, M, ds, Pd, g, hd, ⟨k, it, b, sc, inner, r, rfl, wf, hsc, hin, hs, p⟩, q⟩ := h
  refine ⟨_, (pss_cons (ps_if (pt_cmpR op_eq (pv 0) pe_str (nomark _))
 (pss_one (ps_ret (pe_call G_is_saying (hr.mono (by omega)) (by rfl) T.m_is_saying kp_is_saying b_is_saying .nil pass0 (pa_cons (pv 1) (pa_cons (pv 3) (pa_cons (pe_op op_sub (pv 4) pe_int) pa_nil))))))
 pss_nil)
 (pss_cons (ps_if (pt_cmpR op_eq (pv 0) pe_str (nomark _))
 (pss_one (ps_ret (pe_call G_is_test (hr.mono (by omega)) (by rfl) T.m_is_test kp_is_test b_is_test .nil pass0 (pa_cons (pv 1) pa_nil))))
 pss_nil)
 (pss_cons (ps_if (pt_cmpR op_eq (pv 0) pe_str (nomark _))
 (pss_one (ps_ret (pe_call G_is_number (hr.mono (by omega)) (by rfl) T.m_is_number kp_is_number b_is_number .nil pass0 (pa_cons (pv 1) (pa_cons pe_int (pa_cons (pe_glob (v := .int 8) (by rfl) T.c_MOST_BOUND ⟨_, rfl⟩) pa_nil))))))
 pss_nil)
 (pss_cons (ps_if (pt_not (pt_val (pe_call G_is_name (hr.mono (by omega)) (by rfl) T.m_is_name kp_is_name b_is_name .nil pass0 (pa_cons (pv 1) pa_nil))))
 (pss_one (ps_ret pe_bl))
 pss_nil)
 (pss_cons (ps_if (pt_cmpR op_eq (pv 0) pe_str (nomark _))
 (pss_one (ps_ret (pe_cmpR (YE.op_inA (YE.u65 hr)) (pv 1) (pv 2) rfl)))
 pss_nil)
 (pss_one (ps_ret (pe_or (pe_cmpR op_eq (pv 0) pe_str (nomark _)) (pe_one (pe_cmpR op_eq (XU.pe_tcountZ (pv 3) (pa_cons (pv 1) pa_nil)) pe_int (nomark _))))))))))), ?_⟩
  refine run_body g hd q ?_
  try dsimp only [cxOf]
  cases k with
  | saying =>
    walk_at "dm"
    refine ⟨rfl, it, false, inner, r, ?_, wf, hin, hs, p⟩
    rw [show ((n : Int) + 1 - 1) = ((n : Nat) : Int) by omega]
    rfl
  | test =>
    walk_at "dm"
    exact ⟨rfl, it, r, rfl, wf, hs, p⟩
  | steps =>
    walk_at "dm"
    have hs : some (numS it 0 8) = some r := hs
    cases hs
    refine ⟨rfl, _, 0, 8, rfl, sy_ty wf, ?_⟩
    rw [numS_D]
    exact p
  | table =>
    walk_at "dm"
    refine ⟨sy_okv R wf, _, rfl, ?_⟩
    cases it with
    | nm i =>
      rw [show nameD (toD ρ (.nm i)) = true from R.nm i]
      refine iF rfl ?_
      have hs : (if i < 10 then some true else none) = some r := hs
      by_cases c : i < 10
      · rw [if_pos c] at hs
        cases hs
        walk_at "dm"
        exact p
      · rw [if_neg c] at hs
        cases hs
    | at_ d =>
      have hs : (if flatD d && !nameD d then some false else none) = some r := hs
      cases c : (flatD d && !nameD d) with
      | false => rw [c] at hs; cases hs
      | true =>
        rw [c] at hs
        cases hs
        rw [Bool.and_eq_true, Bool.not_eq_true'] at c
        rw [show nameD (toD ρ (.at_ d)) = false from c.2]
        refine iT rfl ?_
        walk_at "dm"
        exact p
    | tp xs => cases hs; refine iT rfl ?_; walk_at "dm"; exact p
    | ls xs => cases hs; refine iT rfl ?_; walk_at "dm"; exact p
  | name =>
    walk_at "dm"
    refine ⟨sy_okv R wf, _, rfl, ?_⟩
    cases it with
    | nm i =>
      rw [show nameD (toD ρ (.nm i)) = true from R.nm i]
      refine iF rfl ?_
      have hs : (if i < 10 then (if sc.all okSc then some (sc.any (isNm i)) else none) else none) = some r := hs
      by_cases c : i < 10
      · rw [if_pos c] at hs
        by_cases c2 : sc.all okSc = true
        · rw [if_pos c2] at hs
          cases hs
          rw [← any_in R c c2] at p
          obtain ⟨sw, sd⟩ := sco_all hsc
          have spl := sys_pl ρ sc sw
          walk_at "dm"
          have fin : ∀ e : D, (e = .tup (toDs ρ sc) ∨ e = .lst (toDs ρ sc)) → ∃ es, (e = .tup es ∨ e = .lst es) ∧ plD (toD ρ (.nm i)) = true ∧ plD (.lst es) = true ∧ (pyD (toD ρ (.nm i))).canLay0 = true ∧ PyData.canLayAll0 (pyDs es) = true ∧ dpD (toD ρ (.nm i)) ≤ 20 ∧ dpD (.lst es) ≤ 20 ∧ Pd (.bl ((pyDs es).any fun z => PyData.eqv z (pyD (toD ρ (.nm i))))) := fun e he =>
            ⟨_, he, rfl, spl.1, letters_ok (R.nm i), sys_can R sc sw, Nat.zero_le _, by have := spl.2; show dpDs (toDs ρ sc) + 1 ≤ 20; omega, p⟩
          cases b with
          | true => exact ev_inA (ev_var rfl (ev_var rfl (fin _ (.inr rfl))))
          | false => exact ev_inA (ev_var rfl (ev_varZ rfl (fin _ (.inl rfl))))
        · rw [if_neg c2] at hs
          cases hs
      · rw [if_neg c] at hs
        cases hs
    | at_ d =>
      have hs : (if flatD d && !nameD d then some false else none) = some r := hs
      cases c : (flatD d && !nameD d) with
      | false => rw [c] at hs; cases hs
      | true =>
        rw [c] at hs
        cases hs
        rw [Bool.and_eq_true, Bool.not_eq_true'] at c
        rw [show nameD (toD ρ (.at_ d)) = false from c.2]
        refine iT rfl ?_
        walk_at "dm"
        exact p
    | tp xs => cases hs; refine iT rfl ?_; walk_at "dm"; exact p
    | ls xs => cases hs; refine iT rfl ?_; walk_at "dm"; exact p
  | new =>
    walk_at "dm"
    refine ⟨sy_okv R wf, _, rfl, ?_⟩
    cases it with
    | nm i =>
      rw [show nameD (toD ρ (.nm i)) = true from R.nm i]
      refine iF rfl ?_
      have hs : (if i < 10 then (if inner.all anyNm then some (decide (inner.countP (isNm i) = 1)) else none) else none) = some r := hs
      by_cases c : i < 10
      · rw [if_pos c] at hs
        by_cases c2 : inner.all anyNm = true
        · rw [if_pos c2] at hs
          cases hs
          rw [← count_in R c c2] at p
          walk_at "dm"
          refine ev_tcountZ (ev_var rfl ⟨inner.map (nmOf ρ), by rw [all_names c2], ea_cons (ev_var rfl (ea_nil ⟨ρ i, rfl, ev_int ⟨_, rfl, ?_⟩⟩))⟩)
          generalize List.countP (fun z => eqV z (V.str (ρ i))) (List.map V.str (List.map (nmOf ρ) inner)) = cnt at p ⊢
          have e : decide ((cnt : Int) = 1) = decide (cnt = 1) := by
            rw [decide_eq_decide]
            omega
          exact e ▸ p
        · rw [if_neg c2] at hs
          cases hs
      · rw [if_neg c] at hs
        cases hs
    | at_ d =>
      have hs : (if flatD d && !nameD d then some false else none) = some r := hs
      cases c : (flatD d && !nameD d) with
      | false => rw [c] at hs; cases hs
      | true =>
        rw [c] at hs
        cases hs
        rw [Bool.and_eq_true, Bool.not_eq_true'] at c
        rw [show nameD (toD ρ (.at_ d)) = false from c.2]
        refine iT rfl ?_
        walk_at "dm"
        exact p
    | tp xs => cases hs; refine iT rfl ?_; walk_at "dm"; exact p
    | ls xs => cases hs; refine iT rfl ?_; walk_at "dm"; exact p
/-! ### is_saying -/
theorem cut_part {a : D} {xs : List D} : ¬(HT.sIx (a :: xs).length 0 (some 1) = 0 ∧ HT.sIx (a :: xs).length (a :: xs).length none = (a :: xs).length) := by
  rw [show (some (1 : Int)) = some ((1 : Nat) : Int) from rfl, HT.sIx_nat]
  intro h
  have := h.1
  rw [List.length_cons] at this
  omega
def itD : D → D
  | .tup [x, _] => x
  | d => d
def nwD : D → Bool
  | .tup [_, .str y] => decide (y = "new")
  | _ => false
theorem kq_new (k : Kq) : decide (k.s = "new") = decide (k = .new) := by cases k <;> decide
theorem news_D {ρ : Nat → Str} : ∀ (xs : List Sy) (ks : List Kq), List.map itD (List.filter nwD (zipD (toDs ρ xs) (ks.map fun k => D.str k.s))) = toDs ρ (newsS xs ks)
  | [], _ => rfl
  | x :: xs, [] => rfl
  | x :: xs, k :: ks => by
    show List.map itD (List.filter nwD (.tup [toD ρ x, .str k.s] :: zipD (toDs ρ xs) (ks.map fun k => D.str k.s))) = toDs ρ (if k = .new then x :: newsS xs ks else newsS xs ks)
    rw [List.filter_cons, show nwD (.tup [toD ρ x, .str k.s]) = decide (k = .new) from kq_new k]
    by_cases c : k = .new
    · rw [decide_eq_true c, if_pos rfl, if_pos c, List.map_cons, news_D xs ks]
      rfl
    · rw [decide_eq_false c, if_neg Bool.false_ne_true, if_neg c, news_D xs ks]
theorem news_mem : ∀ {xs : List Sy} {ks : List Kq} {y : Sy}, y ∈ newsS xs ks → y ∈ xs
  | x :: xs, k :: ks, y, m => by
    have m : y ∈ (if k = .new then x :: newsS xs ks else newsS xs ks) := m
    split at m
    · rcases List.mem_cons.mp m with e | m
      · rw [e]; exact List.mem_cons_self
      · exact List.mem_cons_of_mem _ (news_mem m)
    · exact List.mem_cons_of_mem _ (news_mem m)
  | [], _, _, m => by cases m
  | _ :: _, [], _, m => by cases m
theorem news_len : ∀ (xs : List Sy) (ks : List Kq), (newsS xs ks).length ≤ ks.length
  | [], ks => Nat.zero_le _
  | _ :: _, [] => Nat.zero_le _
  | x :: xs, k :: ks => by
    show (if k = .new then x :: newsS xs ks else newsS xs ks).length ≤ ks.length + 1
    have := news_len xs ks
    split
    · rw [List.length_cons]; omega
    · omega
theorem toDs_app (ρ : Nat → Str) (xs ys : List Sy) : toDs ρ (xs ++ ys) = toDs ρ xs ++ toDs ρ ys := by
  rw [toDs_map, toDs_map, toDs_map, List.map_append]
theorem toDs_len (ρ : Nat → Str) (xs : List Sy) : (toDs ρ xs).length = xs.length := by rw [toDs_map, List.length_map]
/-- what is asked of the items, one by one -/
theorem allO_some : ∀ {os : List (Option Bool)} {r : Bool}, allO os = some r → ∃ bs : List Bool, os = bs.map some ∧ bs.all id = r
  | [], r, h => ⟨[], rfl, by cases h; rfl⟩
  | none :: os, r, h => by cases h
  | some b :: os, r, h => by
    have h : (allO os).map (fun c => b && c) = some r := h
    obtain ⟨c, hc, e⟩ := Option.map_eq_some_iff.mp h
    obtain ⟨bs, e1, e2⟩ := allO_some hc
    exact ⟨b :: bs, by rw [e1]; rfl, by rw [List.all_cons, e2]; exact e⟩
theorem items_get {f : Kq → Sy → Option Bool} : ∀ {xs : List Sy} {ks : List Kq} {bs : List Bool} {i : Nat} {x : Sy} {k : Kq}, itemsS f xs ks = bs.map some → xs[i]? = some x → ks[i]? = some k → ∃ b, bs[i]? = some b ∧ f k x = some b
  | x0 :: xs, k0 :: ks, bs, i, x, k, h, hx, hk => by
    have h : f k0 x0 :: itemsS f xs ks = bs.map some := h
    cases bs with
    | nil => cases h
    | cons b bs =>
      obtain ⟨h1, h2⟩ := List.cons.inj h
      cases i with
      | zero =>
        cases hx
        cases hk
        exact ⟨b, rfl, h1⟩
      | succ i => exact items_get (i := i) h2 hx hk
  | [], _, _, _, _, _, _, hx, _ => by simp at hx
  | _ :: _, [], _, _, _, _, _, _, hk => by simp at hk
theorem items_len {f : Kq → Sy → Option Bool} : ∀ (xs : List Sy) (ks : List Kq), xs.length = ks.length → (itemsS f xs ks).length = ks.length
  | [], [], _ => rfl
  | _ :: xs, _ :: ks, h => by
    show (itemsS f xs ks).length + 1 = ks.length + 1
    rw [items_len xs ks (by simpa using h)]
theorem zipD_len : ∀ (xs ys : List D), xs.length = ys.length → (zipD xs ys).length = ys.length
  | [], [], _ => rfl
  | _ :: xs, _ :: ys, h => by
    show (zipD xs ys).length + 1 = ys.length + 1
    rw [zipD_len xs ys (by simpa using h)]
theorem shape_some {s : Sy} {z : Str} {ks : List Kq} {xs : List Sy} (h : shapeS s = some (some (z, ks, xs))) : s = .tp (.at_ (.str z) :: xs) ∧ shapeAt z = some ks ∧ xs.length = ks.length := by
  cases s with
  | nm i => cases h
  | ls ys => cases h
  | at_ d =>
    have h : (if flatD d then some none else none) = some (some (z, ks, xs)) := h
    split at h <;> cases h
  | tp ys =>
    cases ys with
    | nil => cases h
    | cons y ys =>
      cases y with
      | nm i => cases h
      | tp i => cases h
      | ls i => cases h
      | at_ d =>
        cases d with
        | str u =>
          have h : (match shapeAt u with | some ks => some (if ys.length = ks.length then some (u, ks, ys) else none) | none => if u = "maybe" then some none else none) = some (some (z, ks, xs)) := h
          cases e : shapeAt u with
          | none =>
            rw [e] at h
            have h : (if u = "maybe" then some none else none) = some (some (z, ks, xs)) := h
            split at h <;> cases h
          | some ks2 =>
            rw [e] at h
            have h := Option.some.inj h
            by_cases c : ys.length = ks2.length
            · rw [if_pos c] at h
              cases h
              exact ⟨rfl, e, c⟩
            · rw [if_neg c] at h
              cases h
        | _ => cases h
theorem ev_scoS {ρ : Nat → Str} {B : Bx} {Γ : Gam} {i : Nat} {b : Bool} {sc : List Sy} {P : D → Prop} (hi : Γ[i]? = some (some (scD ρ b sc))) (h : ∀ d, (d = .tup (toDs ρ sc) ∨ d = .lst (toDs ρ sc)) → P d) : Ev K B (tVar i) Γ P := by
  cases b with
  | true => exact ev_var hi (h _ (.inr rfl))
  | false => exact ev_varZ hi (h _ (.inl rfl))
theorem zip_of {ρ : Nat → Str} {xs : List Sy} {ks : List Kq} {i : Nat} {d : D} (h : (zipD (toDs ρ xs) ((ks.map Kq.s).map D.str))[i]? = some d) : ∃ x k, xs[i]? = some x ∧ ks[i]? = some k ∧ d = .tup [toD ρ x, .str k.s] := by
  obtain ⟨x', y', h1, h2, rfl⟩ := zipD_get h
  rw [toDs_map, List.getElem?_map] at h1
  rw [List.map_map, List.getElem?_map] at h2
  obtain ⟨x, hx, rfl⟩ := Option.map_eq_some_iff.mp h1
  obtain ⟨k, hk, rfl⟩ := Option.map_eq_some_iff.mp h2
  exact ⟨x, k, hx, hk, rfl⟩
theorem cutD_sy (ρ : Nat → Str) (x : Sy) (xs : List Sy) : DL.cutD (toDs ρ (x :: xs)) (some 1) none = toDs ρ xs := cutD_from1 _ _
theorem ok_saying0 {ρ : Nat → Str} {FI : Bx → List D → (D → Prop) → Prop} {fd : FuncData} (F : Fun K "is_saying" "is_saying" s_is_saying a_is_saying fd) (T : Txt K mg a_copied a_as_items a_is_name a_is_number a_number_in a_is_test a_has_shape a_is_saying a_is_item a_sayings_in a_table_uses a_is_within_limits a_words_of a_word_at a_read_saying a_read_item a_read_test a_are_names a__law_box a__law_pull a__law_of a__law_words a__law_same a__law_field a__law_got a_OnceError a_InvalidNames a_InvalidSaying a_InvalidText a_Missing a_NothingLeft a_Question a_SHAPES a_TESTS t_DEEPEST_COPY t_LETTERS t_DIGITS t_LONGEST_NAME t_LONGEST_NUMBER t_MOST_FORMS t_MOST_DEEP t_MOST_SCOPE t_MOST_BOUND t_MOST_NAMES) (S : ShQ K w a_SHAPES) (C_has_shape : Cal P w K mg base 1 a_has_shape ["value"] (SpD K 1 (fShape ρ)))
    (C_is_item : Cal P w K mg base 1 a_is_item ["kind", "item", "scope", "inner", "deep"] (SpD K 5 FI)) :
    FnOk P w K mg base CX0 2 a_is_saying fd ["value", "scope", "deep"] (SpD K 3 (fSay ρ 0)) := by
  obtain ⟨fd_has_shape, G_has_shape, kp_has_shape, b_has_shape⟩ := C_has_shape.ex
  obtain ⟨fd_is_item, G_is_item, kp_is_item, b_is_item⟩ := C_is_item.ex
  refine F.ok sc_is_saying (fun vs H Q E h => h.1) (fun cdv A outer s H vs Q E hr h => ?_)
  obtain ⟨hl, B, M, ds, Pd, g, hd, ⟨v, b, sc, r, rfl, wf, hsc, hs, p⟩, q⟩ := h
  refine ⟨_, (pss_cons (ps_if (PW.pt (pw_or (pt_cmpR op_eq (pv 2) pe_int (nomark _)) (pw_or1 (pt_not (pt_val (pe_call G_has_shape (hr.mono (by omega)) (by rfl) T.m_has_shape kp_has_shape b_has_shape .nil pass0 (pa_cons (pv 0) pa_nil)))))))
 (pss_one (ps_ret pe_bl))
 pss_nil)
 (pss_cons (ps_set (i := 3) sc_is_saying.nd rfl (Or.inl rfl) (pe_ix (RD.ix_kdK K w) (pe_glob (v := .ref a_SHAPES) (by rfl) T.k_SHAPES rfl) (pe_ix (ix_seqK K) (pv 0) pe_int (fun _ _ => rfl)) (fun _ _ => rfl)))
 (pss_cons (ps_set (i := 4) sc_is_saying.nd rfl (Or.inr rfl) (XU.pe_tupZ (StX.pa_star (pv 1) (StX.pa_star (pe_lc (own := [("item", 5), ("kind", 6)]) (g := (gTup K 2 (gCons (gName 5) (gCons (gName 6) gNil)))) (tt := _) (by rfl) sc_is_saying.nd (pi_zipA (by rfl) T.n_zip (pa_cons (pe_slice (XL.sl_tupK K) (pv 0) (po_some pe_int) po_none) (pa_cons (pv 3) pa_nil))) (blkOk_by (own := [("item", 5), ("kind", 6)]) (N := N_is_saying) (sc := defScope s_is_saying) (by decide +kernel)) (fun _ _ _ _ _ => (pg_tup rfl (pgs_cons (pg_name (i := 5) sc_is_saying.nd rfl (Or.inl rfl)) (pgs_cons (pg_name (i := 6) sc_is_saying.nd rfl (Or.inl rfl)) pgs_nil)))) (fun _ _ _ _ _ => pts_one (pt_cmpR op_eq (pv 6) pe_str (nomark _))) (fun _ _ _ _ _ => (pv 5))) pa_nil))))
 (pss_cons (ps_if (pt_cmpR op_gt (pe_callB call_len (by rfl) T.n_len PySem.boot_len (pa_cons (pv 4) pa_nil)) (pe_glob (v := .int 6) (by rfl) T.c_MOST_SCOPE ⟨_, rfl⟩) (nomark _))
 (pss_one (ps_ret pe_bl))
 pss_nil)
 (pss_one (ps_ret (pe_callB (cr_all rfl) (by rfl) T.n_all (by decide +kernel) (pa_cons (pe_lc (own := [("item", 5), ("kind", 6)]) (g := (gTup K 2 (gCons (gName 5) (gCons (gName 6) gNil)))) (tt := tYes) (by rfl) sc_is_saying.nd (pi_zipA (by rfl) T.n_zip (pa_cons (pe_slice (XL.sl_tupK K) (pv 0) (po_some pe_int) po_none) (pa_cons (pv 3) pa_nil))) (blkOk_by (own := [("item", 5), ("kind", 6)]) (N := N_is_saying) (sc := defScope s_is_saying) (by decide +kernel)) (fun _ _ _ _ _ => (pg_tup rfl (pgs_cons (pg_name (i := 5) sc_is_saying.nd rfl (Or.inl rfl)) (pgs_cons (pg_name (i := 6) sc_is_saying.nd rfl (Or.inl rfl)) pgs_nil)))) (fun _ _ _ _ _ => pts_nil) (fun _ _ _ _ _ => (pe_call G_is_item (hr.mono (by omega)) (by rfl) T.m_is_item kp_is_item b_is_item .nil pass0 (pa_cons (pv 6) (pa_cons (pv 5) (pa_cons (pv 1) (pa_cons (pv 4) (pa_cons (pv 2) pa_nil)))))))) pa_nil)))))))), ?_⟩
  refine run_body g hd q ?_
  try dsimp only [cxOf]
  cases hs
  walk_at "dm"
  exact p
theorem ok_saying {ρ : Nat → Str} {n k0 : Nat} {fd : FuncData} (F : Fun K "is_saying" "is_saying" s_is_saying a_is_saying fd) (T : Txt K mg a_copied a_as_items a_is_name a_is_number a_number_in a_is_test a_has_shape a_is_saying a_is_item a_sayings_in a_table_uses a_is_within_limits a_words_of a_word_at a_read_saying a_read_item a_read_test a_are_names a__law_box a__law_pull a__law_of a__law_words a__law_same a__law_field a__law_got a_OnceError a_InvalidNames a_InvalidSaying a_InvalidText a_Missing a_NothingLeft a_Question a_SHAPES a_TESTS t_DEEPEST_COPY t_LETTERS t_DIGITS t_LONGEST_NAME t_LONGEST_NUMBER t_MOST_FORMS t_MOST_DEEP t_MOST_SCOPE t_MOST_BOUND t_MOST_NAMES) (S : ShQ K w a_SHAPES) (hk : 1 ≤ k0) (C_has_shape : Cal P w K mg base 1 a_has_shape ["value"] (SpD K 1 (fShape ρ)))
    (C_is_item : Cal P w K mg base k0 a_is_item ["kind", "item", "scope", "inner", "deep"] (SpD K 5 (fItem ρ n))) :
    FnOk P w K mg base CX0 (k0 + 1) a_is_saying fd ["value", "scope", "deep"] (SpD K 3 (fSay ρ (n + 1))) := by
  obtain ⟨fd_has_shape, G_has_shape, kp_has_shape, b_has_shape⟩ := C_has_shape.ex
  obtain ⟨fd_is_item, G_is_item, kp_is_item, b_is_item⟩ := C_is_item.ex
  refine F.ok sc_is_saying (fun vs H Q E h => h.1) (fun cdv A outer s H vs Q E hr h => ?_)
  obtain ⟨hl, B, M, ds, Pd, g, hd, ⟨v, b, sc, r, rfl, wf, hsc, hs, p⟩, q⟩ := h
  refine ⟨_, (pss_cons (ps_if (PW.pt (pw_or (pt_cmpR op_eq (pv 2) pe_int (nomark _)) (pw_or1 (pt_not (pt_val (pe_call G_has_shape (hr.mono (by omega)) (by rfl) T.m_has_shape kp_has_shape b_has_shape .nil pass0 (pa_cons (pv 0) pa_nil)))))))
 (pss_one (ps_ret pe_bl))
 pss_nil)
 (pss_cons (ps_set (i := 3) sc_is_saying.nd rfl (Or.inl rfl) (pe_ix (RD.ix_kdK K w) (pe_glob (v := .ref a_SHAPES) (by rfl) T.k_SHAPES rfl) (pe_ix (ix_seqK K) (pv 0) pe_int (fun _ _ => rfl)) (fun _ _ => rfl)))
 (pss_cons (ps_set (i := 4) sc_is_saying.nd rfl (Or.inr rfl) (XU.pe_tupZ (StX.pa_star (pv 1) (StX.pa_star (pe_lc (own := [("item", 5), ("kind", 6)]) (g := (gTup K 2 (gCons (gName 5) (gCons (gName 6) gNil)))) (tt := _) (by rfl) sc_is_saying.nd (pi_zipA (by rfl) T.n_zip (pa_cons (pe_slice (XL.sl_tupK K) (pv 0) (po_some pe_int) po_none) (pa_cons (pv 3) pa_nil))) (blkOk_by (own := [("item", 5), ("kind", 6)]) (N := N_is_saying) (sc := defScope s_is_saying) (by decide +kernel)) (fun _ _ _ _ _ => (pg_tup rfl (pgs_cons (pg_name (i := 5) sc_is_saying.nd rfl (Or.inl rfl)) (pgs_cons (pg_name (i := 6) sc_is_saying.nd rfl (Or.inl rfl)) pgs_nil)))) (fun _ _ _ _ _ => pts_one (pt_cmpR op_eq (pv 6) pe_str (nomark _))) (fun _ _ _ _ _ => (pv 5))) pa_nil))))
 (pss_cons (ps_if (pt_cmpR op_gt (pe_callB call_len (by rfl) T.n_len PySem.boot_len (pa_cons (pv 4) pa_nil)) (pe_glob (v := .int 6) (by rfl) T.c_MOST_SCOPE ⟨_, rfl⟩) (nomark _))
 (pss_one (ps_ret pe_bl))
 pss_nil)
 (pss_one (ps_ret (pe_callB (cr_all rfl) (by rfl) T.n_all (by decide +kernel) (pa_cons (pe_lc (own := [("item", 5), ("kind", 6)]) (g := (gTup K 2 (gCons (gName 5) (gCons (gName 6) gNil)))) (tt := tYes) (by rfl) sc_is_saying.nd (pi_zipA (by rfl) T.n_zip (pa_cons (pe_slice (XL.sl_tupK K) (pv 0) (po_some pe_int) po_none) (pa_cons (pv 3) pa_nil))) (blkOk_by (own := [("item", 5), ("kind", 6)]) (N := N_is_saying) (sc := defScope s_is_saying) (by decide +kernel)) (fun _ _ _ _ _ => (pg_tup rfl (pgs_cons (pg_name (i := 5) sc_is_saying.nd rfl (Or.inl rfl)) (pgs_cons (pg_name (i := 6) sc_is_saying.nd rfl (Or.inl rfl)) pgs_nil)))) (fun _ _ _ _ _ => pts_nil) (fun _ _ _ _ _ => (pe_call G_is_item (hr.mono (by omega)) (by rfl) T.m_is_item kp_is_item b_is_item .nil pass0 (pa_cons (pv 6) (pa_cons (pv 5) (pa_cons (pv 1) (pa_cons (pv 4) (pa_cons (pv 2) pa_nil)))))))) pa_nil)))))))), ?_⟩
  refine run_body g hd q ?_
  try dsimp only [cxOf]
  have hs : (match shapeS v with
    | none => none
    | some none => some false
    | some (some (_, ks, xs)) => if 6 < (sc ++ newsS xs ks).length then some false else allO (itemsS (fun k it => itemS (sayS n) k it sc (sc ++ newsS xs ks)) xs ks)) = some r := hs
  walk_at "dm"
  cases e : shapeS v with
  | none => rw [e] at hs; cases hs
  | some o =>
    cases o with
    | none =>
      rw [e] at hs
      cases hs
      refine ⟨rfl, v, none, rfl, wf, e, _, rfl, iT rfl ?_⟩
      walk_at "dm"
      exact p
    | some t =>
      obtain ⟨z, ks, xs⟩ := t
      rw [e] at hs
      have hs2 : (if 6 < (sc ++ newsS xs ks).length then some false else allO (itemsS (fun k it => itemS (sayS n) k it sc (sc ++ newsS xs ks)) xs ks)) = some r := hs
      refine ⟨rfl, v, some (z, ks, xs), rfl, wf, e, _, rfl, iF rfl ?_⟩
      obtain ⟨rfl, hsh, hlen⟩ := shape_some e
      obtain ⟨sv, kd, kt⟩ := S.of hsh
      have k6 := shape_len hsh
      have wx : ∀ x, x ∈ xs → Wf x := fun x m => wf.tp.2 x (List.mem_cons_of_mem _ m)
      refine rn_next ?_
      refine rn_seq (rn_set ?_)
      walk_at "dm"
      refine ⟨_, item_c0 _ _, ?_⟩
      refine ⟨_, _, sv, _, rfl, rfl, kd, kt.den, ?_⟩
      try dsimp only [List.set]
      have zlen : (zipD (toDs ρ xs) ((ks.map Kq.s).map D.str)).length = ks.length := by
        rw [zipD_len _ _ (by rw [toDs_len, List.length_map, List.length_map, hlen]), List.length_map, List.length_map]
      have zsm : (zipD (toDs ρ xs) ((ks.map Kq.s).map D.str)).length < sizeLine := by rw [zlen, sizeLine_eq]; omega
      have e0 : List.map itD (List.filter nwD (zipD (toDs ρ xs) ((ks.map Kq.s).map D.str))) = toDs ρ (newsS xs ks) := by
        rw [List.map_map]
        exact news_D xs ks
      have nlen := news_len xs ks
      have inlen : (sc ++ newsS xs ks).length ≤ 26 := by rw [List.length_append]; have := hsc.len; omega
      refine rn_seq (rn_set (ev_tupZ (ea_star (ev_scoS rfl fun d0 ed0 => ⟨_, ed0, ea_star (ev_lc_filter (ei_zip (ea_cons (ev_slT (ev_var rfl ⟨_, rfl, eo_some (ev_int ⟨_, rfl, eo_none ⟨cut_part, ea_cons (ev_var rfl (ea_nil ⟨_, _, .inr (by rw [cutD_sy]), zsm, itD, nwD, fun d hd => ?_, _, .inr rfl, ea_nil ⟨?_, ?_⟩⟩))⟩⟩)⟩)))))⟩))))
      · obtain ⟨i, hi⟩ := List.getElem?_of_mem hd
        obtain ⟨x, k, hx, hk, rfl⟩ := zip_of hi
        refine eg_pair (by decide) (by decide) ?_
        walk_at "dm"
        exact ⟨rfl, fun h => ev_var rfl rfl⟩
      · rw [e0, List.append_nil, ← toDs_app, toDs_len, sizeLine_eq]
        omega
      rw [e0, List.append_nil, ← toDs_app]
      try dsimp only [List.set]
      refine rn_seq (rn_if (et_test (ev_B0 (ev_len (ea_cons (ev_varZ rfl (ea_nil ⟨_, (sc ++ newsS xs ks).length, rfl, ?_, ev_int ⟨_, _, rfl, rfl, _, rfl, ?_⟩⟩)))))))
      · show some (toDs ρ (sc ++ newsS xs ks)).length = some (sc ++ newsS xs ks).length
        rw [toDs_len]
      by_cases c : 6 < (sc ++ newsS xs ks).length
      · rw [if_pos c] at hs2
        cases hs2
        refine iT (decide_eq_true (by omega)) ?_
        walk_at "dm"
        exact p
      · rw [if_neg c] at hs2
        refine iF (decide_eq_false (by omega)) ?_
        refine rn_next ?_
        obtain ⟨bs, eb, er⟩ := allO_some hs2
        have hin : Sco (sc ++ newsS xs ks) := ⟨fun y m => (List.mem_append.mp m).elim (hsc.wf y) fun m => wx y (news_mem m), by omega⟩
        refine rn_ret (ev_all (ea_cons (ev_lc (ei_zip (ea_cons (ev_slT (ev_var rfl ⟨_, rfl, eo_some (ev_int ⟨_, rfl, eo_none ⟨cut_part, ea_cons (ev_var rfl (ea_nil ⟨_, _, .inr (by rw [cutD_sy]), zsm, fun i acc => acc = (bs.take i).map D.bl, rfl, fun i d acc hd hI hl => ?_, fun acc hI hl => ?_⟩))⟩⟩)⟩)))))))
        · subst hI
          obtain ⟨x, k, hx, hk, rfl⟩ := zip_of hd
          obtain ⟨b1, hb, hf⟩ := items_get eb hx hk
          refine eg_pair (by decide) (by decide) (et_yes (iT rfl (ev_call ?_)))
          walk_at "dm"
          refine ⟨rfl, k, x, b, sc, sc ++ newsS xs ks, b1, rfl, wx x (List.mem_of_getElem? hx), hsc, hin, hf, ?_⟩
          show List.map D.bl (bs.take i) ++ [D.bl b1] = List.map D.bl (bs.take (i + 1))
          rw [List.take_add_one, hb, List.map_append]
          rfl
        · subst hI
          have bl : bs.length = ks.length := by
            have h1 := items_len (f := fun k it => itemS (sayS n) k it sc (sc ++ newsS xs ks)) xs ks hlen
            rw [eb, List.length_map] at h1
            exact h1
          rw [zlen, ← bl, List.take_length]
          refine ea_nil ⟨bs, rfl, ?_⟩
          rw [er]
          exact p
end
end KL

set_option maxHeartbeats 4000000
namespace KL
open PySem PySem.Spec PyProof.Rows L2 RZ XE TL DL RD RE XA XB XC XD XK
local macro_rules | `(tactic| walk_at "dl1") => `(tactic| first
  | with_reducible refine rn_seq ?_
  | with_reducible refine rn_if ?_
  | with_reducible refine rn_ret ?_
  | with_reducible refine rn_set ?_
  | with_reducible refine rn_drop ?_
  | with_reducible refine rn_next ?_
  | with_reducible refine et_test ?_
  | with_reducible refine et_B ?_
  | with_reducible refine et_not ?_
  | with_reducible refine et_and ?_
  | with_reducible refine et_or ?_
  | ((with_reducible refine' ev_var ?k1 ?_); (case k1 => exact rfl))
  | with_reducible refine ev_int ?_
  | with_reducible refine ev_str ?_
  | with_reducible refine ev_bl ?_
  | with_reducible refine ev_non ?_
  | with_reducible refine ev_ty ?_
  | with_reducible refine ea_nil ?_
  | with_reducible refine ea_cons ?_
  | with_reducible refine ev_andV ?_
  | with_reducible refine ev_orV ?_
  | with_reducible refine ev_notV ?_
  | with_reducible refine ev_chain ?_
  | with_reducible refine ev_len ?_
  | with_reducible refine ev_all ?_
  | with_reducible refine ev_join ?_
  | with_reducible refine ev_I0 ?_
  | with_reducible refine ev_B0 ?_
  | with_reducible refine ev_I ?_
  | with_reducible refine ev_eq ?_
  | with_reducible refine ev_ne ?_
  | with_reducible refine ev_isN ?_
  | with_reducible refine ev_notN ?_
  | with_reducible refine ev_tup ?_
  | with_reducible refine ev_lst ?_
  | with_reducible refine ev_ix ?_
  | with_reducible refine ev_cat ?_
  | with_reducible refine ev_rep ?_
  | with_reducible refine ev_mulS ?_
  | with_reducible refine ev_add_str ?_
  | with_reducible refine ev_slS ?_
  | with_reducible refine ev_slL ?_
  | with_reducible refine eo_none ?_
  | with_reducible refine eo_some ?_
  | with_reducible refine ev_in_sign ?_
  | with_reducible refine ev_is ?_
  | refine ev_is2 (m := .list) (m' := .tuple) ?_
  | with_reducible refine ev_call ?_)
local macro_rules | `(tactic| walk_at "dl2") => `(tactic| first
  | (refine ⟨_, rfl, ?_⟩; done)
  | (with_reducible refine ⟨_, rfl, ?_⟩)
  | (with_reducible refine ⟨_, _, rfl, rfl, ?_⟩)
  | (refine ⟨_, .str, rfl, rfl, ?_⟩)
  | (refine ⟨_, .int, rfl, rfl, ?_⟩)
  | (refine ⟨_, .bool, rfl, rfl, ?_⟩)
  | (refine ⟨_, .list, rfl, rfl, ?_⟩)
  | (refine ⟨_, .tuple, rfl, rfl, ?_⟩)
  | (refine ⟨rfl, _, rfl, ?_⟩)
  | (refine iT rfl ?_)
  | (refine iF rfl ?_))
local macro_rules | `(tactic| walk_at "dl4") => `(tactic| first
  | with_reducible refine ev_tupleOf ?_
  | with_reducible refine rn_par ?_
  | with_reducible refine ev_ifE ?_
  | with_reducible refine ev_strA ?_
  | with_reducible refine ev_neg ?_
  | with_reducible refine ev_fmt ?_
  | with_reducible refine ev_split ?_
  | with_reducible refine ev_eqP ?_
  | with_reducible refine ev_neP ?_
  | with_reducible refine ev_kin ?_
  | with_reducible refine ev_kix ?_
  | with_reducible refine ea_star ?_
  | with_reducible refine ev_inS ?_
  | with_reducible refine rw_next ?_
  | (with_reducible refine rw_seq ?_)
  | with_reducible refine rw_ret ?_
  | with_reducible refine ev_fld ?_
  | with_reducible refine ev_slT ?_
  | with_reducible refine ev_neg ?_
  | with_reducible refine ev_int1 ?_
  | with_reducible refine ev_dget ?_
  | with_reducible refine ev_catT ?_
  | with_reducible refine rn_par3 ?_
  | with_reducible refine ev_ref ?_)
local macro_rules | `(tactic| walk_at "dn") => `(tactic| repeat first | walk_at "dl1" | walk_at "dl4" | walk_at "dl2")
local macro_rules | `(tactic| walk_at "dl3") => `(tactic| first
  | (refine ⟨rfl, fun _ e => (by cases e <;> first | omega | decide), ?_⟩)
  | (refine ⟨small_n (Nat.le_of_ble_eq_true rfl), ?_⟩)
  | (refine ⟨_, _, _, rfl, rfl, ?_⟩)
  | (refine ⟨rfl, _, _, _, rfl, rfl, ?_⟩)
  | (refine ⟨rfl, _, _, rfl, rfl, (by decide), (by decide), ?_⟩)
  | (refine ⟨(show CPow _ _ from ⟨by decide, by decide, by decide⟩), ?_⟩)
  | (refine ⟨(show CMul _ _ from .inl ⟨by decide, by decide⟩), ?_⟩)
  | with_reducible refine et_yes ?_)
local macro_rules | `(tactic| walk_at "pl") => `(tactic| first
  | exact Pl.bl _ | exact Pl.int _ | exact Pl.str _ | exact Pl.non
  | refine Pl.ofL ?_ (Nat.le_of_ble_eq_true rfl) | refine Pl.ofT ?_ (Nat.le_of_ble_eq_true rfl)
  | exact PlL.nil | refine PlL.cons ?_ ?_)
local macro_rules | `(tactic| walk_at "dm") => `(tactic| repeat first | walk_at "dl1" | walk_at "dl4" | walk_at "dl2" | walk_at "dl3")
local macro_rules | `(tactic| walk_at "dl") => `(tactic| repeat first | walk_at "dl1" | walk_at "dl2" | walk_at "dl3")
section
variable {P : Program} {w : World} {K : PySem.W.Frag} {mg : Str → Option Value} {base : Heap} {a_copied : Addr} {a_as_items : Addr} {a_is_name : Addr} {a_is_number : Addr} {a_number_in : Addr} {a_is_test : Addr} {a_has_shape : Addr} {a_is_saying : Addr} {a_is_item : Addr} {a_sayings_in : Addr} {a_table_uses : Addr} {a_is_within_limits : Addr} {a_words_of : Addr} {a_word_at : Addr} {a_read_saying : Addr} {a_read_item : Addr} {a_read_test : Addr} {a_are_names : Addr} {a__law_box : Addr} {a__law_pull : Addr} {a__law_of : Addr} {a__law_words : Addr} {a__law_same : Addr} {a__law_field : Addr} {a__law_got : Addr} {a_OnceError : Addr} {a_InvalidNames : Addr} {a_InvalidSaying : Addr} {a_InvalidText : Addr} {a_Missing : Addr} {a_NothingLeft : Addr} {a_Question : Addr} {a_SHAPES : Addr} {a_TESTS : Addr} {t_DEEPEST_COPY : Tok} {t_LETTERS : Tok} {t_DIGITS : Tok} {t_LONGEST_NAME : Tok} {t_LONGEST_NUMBER : Tok} {t_MOST_FORMS : Tok} {t_MOST_DEEP : Tok} {t_MOST_SCOPE : Tok} {t_MOST_BOUND : Tok} {t_MOST_NAMES : Tok} 

/-! ### the sayings in a saying, what they say of tables -/
def isSy : D → Bool
  | .tup [_, .str y] => decide (y = "saying")
  | _ => false
theorem kq_say (k : Kq) : decide (k.s = "saying") = decide (k = .saying) := by cases k <;> decide
theorem parts_D {ρ : Nat → Str} : ∀ (xs : List Sy) (ks : List Kq), List.map itD (List.filter isSy (zipD (toDs ρ xs) (ks.map fun k => D.str k.s))) = toDs ρ (partsS xs ks)
  | [], _ => rfl
  | x :: xs, [] => rfl
  | x :: xs, k :: ks => by
    show List.map itD (List.filter isSy (.tup [toD ρ x, .str k.s] :: zipD (toDs ρ xs) (ks.map fun k => D.str k.s))) = toDs ρ (if k = .saying then x :: partsS xs ks else partsS xs ks)
    rw [List.filter_cons, show isSy (.tup [toD ρ x, .str k.s]) = decide (k = .saying) from kq_say k]
    by_cases c : k = .saying
    · rw [decide_eq_true c, if_pos rfl, if_pos c, List.map_cons, parts_D xs ks]
      rfl
    · rw [decide_eq_false c, if_neg Bool.false_ne_true, if_neg c, parts_D xs ks]
theorem parts_mem : ∀ {xs : List Sy} {ks : List Kq} {y : Sy}, y ∈ partsS xs ks → y ∈ xs
  | x :: xs, k :: ks, y, m => by
    have m : y ∈ (if k = .saying then x :: partsS xs ks else partsS xs ks) := m
    split at m
    · rcases List.mem_cons.mp m with e | m
      · rw [e]; exact List.mem_cons_self
      · exact List.mem_cons_of_mem _ (parts_mem m)
    · exact List.mem_cons_of_mem _ (parts_mem m)
  | [], _, _, m => by cases m
  | _ :: _, [], _, m => by cases m
def fForms (ρ : Nat → Str) (n : Nat) : Bx → List D → (D → Prop) → Prop := fun _ ds P => ∃ (v : Sy) (fs : List Sy), ds = [toD ρ v] ∧ Wf v ∧ formsS n v = some fs ∧ fs.length ≤ 500 ∧ P (.lst (toDs ρ fs))
theorem flat_take {α : Type} : ∀ {ys : List (List α)} {i : Nat} {y : List α}, ys[i]? = some y → (ys.take (i + 1)).flatten = (ys.take i).flatten ++ y
  | ys, i, y, h => by
    rw [List.take_add_one, h, List.flatten_append]
    simp
theorem flat_len {α : Type} {ys : List (List α)} (i : Nat) : ((ys.take i).flatten).length ≤ ys.flatten.length := by
  have e : ys.flatten = (ys.take i).flatten ++ (ys.drop i).flatten := by rw [← List.flatten_append, List.take_append_drop]
  rw [e, List.length_append]
  omega
theorem ok_sayings_in {ρ : Nat → Str} {n k0 : Nat} {fd : FuncData} (F : Fun K "sayings_in" "sayings_in" s_sayings_in a_sayings_in fd) (T : Txt K mg a_copied a_as_items a_is_name a_is_number a_number_in a_is_test a_has_shape a_is_saying a_is_item a_sayings_in a_table_uses a_is_within_limits a_words_of a_word_at a_read_saying a_read_item a_read_test a_are_names a__law_box a__law_pull a__law_of a__law_words a__law_same a__law_field a__law_got a_OnceError a_InvalidNames a_InvalidSaying a_InvalidText a_Missing a_NothingLeft a_Question a_SHAPES a_TESTS t_DEEPEST_COPY t_LETTERS t_DIGITS t_LONGEST_NAME t_LONGEST_NUMBER t_MOST_FORMS t_MOST_DEEP t_MOST_SCOPE t_MOST_BOUND t_MOST_NAMES) (S : ShQ K w a_SHAPES) (C_sayings_in : Cal P w K mg base k0 a_sayings_in ["saying"] (SpD K 1 (fForms ρ n))) :
    FnOk P w K mg base CX0 (k0 + 1) a_sayings_in fd ["saying"] (SpD K 1 (fForms ρ (n + 1))) := by
  obtain ⟨fd_sayings_in, G_sayings_in, kp_sayings_in, b_sayings_in⟩ := C_sayings_in.ex
  refine F.ok sc_sayings_in (fun vs H Q E h => h.1) (fun cdv A outer s H vs Q E hr h => ?_)
  obtain ⟨hl, B, M, ds, Pd, g, hd, ⟨v, fs, rfl, wf, hf, hz, p⟩, q⟩ := h
  refine ⟨_, (pss_cons (ps_setLc (i := 1) (own := [("item", 2), ("kind", 3)]) (g := (gTup K 2 (gCons (gName 2) (gCons (gName 3) gNil)))) (tt := _) (by rfl) sc_sayings_in.nd rfl rfl (sw_true rfl rfl rfl (by decide +kernel)) (pi_zipA (by rfl) T.n_zip (pa_cons (pe_slice (XL.sl_tupK K) (pv 0) (po_some pe_int) po_none) (pa_cons (pe_ix (RD.ix_kdK K w) (pe_glob (v := .ref a_SHAPES) (by rfl) T.k_SHAPES rfl) (pe_ix (ix_seqK K) (pv 0) pe_int (fun _ _ => rfl)) (fun _ _ => rfl)) pa_nil))) (blkOk_by (own := [("item", 2), ("kind", 3)]) (N := N_sayings_in) (sc := defScope s_sayings_in) (by decide +kernel)) (fun _ _ _ _ _ => (pg_tup rfl (pgs_cons (pg_name (i := 2) sc_sayings_in.nd rfl (Or.inl rfl)) (pgs_cons (pg_name (i := 3) sc_sayings_in.nd rfl (Or.inl rfl)) pgs_nil)))) (fun _ _ _ _ _ => pts_one (pt_cmpR op_eq (pv 3) pe_str (nomark _))) (fun _ _ _ _ _ => (pv 2)))
 (pss_one (ps_ret (pe_lst (pa_cons (pv 0) (StX.pa_star (pe_lc2 (own := [("part", 4), ("inner", 5)]) (vs1 := [5]) (g := (gName 4)) (g1 := (gName 5)) (tt := tYes) (tt1 := tYes) (by rfl) sc_sayings_in.nd (pi_list (pv 1)) (blkOk_by (own := [("part", 4), ("inner", 5)]) (N := N_sayings_in) (sc := defScope s_sayings_in) (by decide +kernel)) (by decide) (fun _ _ _ _ _ => (pg_name (i := 4) sc_sayings_in.nd rfl (Or.inl rfl))) (fun _ _ _ _ _ => pts_nil) (fun _ _ _ _ _ => (pi_listK K (pe_call G_sayings_in (hr.mono (by omega)) (by rfl) T.m_sayings_in kp_sayings_in b_sayings_in .nil pass0 (pa_cons (pv 4) pa_nil)))) (fun _ _ _ _ _ => (pg_name (i := 5) sc_sayings_in.nd rfl (Or.inl rfl))) (fun _ _ _ _ _ => pts_nil) (fun _ _ _ _ _ => (pv 5))) pa_nil)))))), ?_⟩
  refine run_body g hd q ?_
  try dsimp only [cxOf]
  have hf : (match shapeS v with
    | some (some (_, ks, xs)) => (mapO (formsS n) (partsS xs ks)).map fun ys => v :: ys.flatten
    | _ => none) = some fs := hf
  cases e : shapeS v with
  | none => rw [e] at hf; cases hf
  | some o =>
    cases o with
    | none => rw [e] at hf; cases hf
    | some t =>
      obtain ⟨z, ks, xs⟩ := t
      rw [e] at hf
      obtain ⟨ys, hy, efs⟩ := Option.map_eq_some_iff.mp hf
      obtain ⟨ev, hsh, hlen⟩ := shape_some e
      have wx : ∀ x, x ∈ xs → Wf x := fun x m => by rw [ev] at wf; exact wf.tp.2 x (List.mem_cons_of_mem _ m)
      obtain ⟨sv, kd, kt⟩ := S.of hsh
      have k6 := shape_len hsh
      have e0 : List.map itD (List.filter isSy (zipD (toDs ρ xs) ((ks.map Kq.s).map D.str))) = toDs ρ (partsS xs ks) := by
        rw [List.map_map]
        exact parts_D xs ks
      have zlen : (zipD (toDs ρ xs) ((ks.map Kq.s).map D.str)).length = ks.length := by
        rw [zipD_len _ _ (by rw [toDs_len, List.length_map, List.length_map, hlen]), List.length_map, List.length_map]
      have zsm : (zipD (toDs ρ xs) ((ks.map Kq.s).map D.str)).length < sizeLine := by rw [zlen, sizeLine_eq]; omega
      have etd : toD ρ v = .tup (toDs ρ (.at_ (.str z) :: xs)) := by rw [ev]; rfl
      have c0 : itemD (toD ρ v) (.int 0) = some (.str z) := by rw [etd]; exact item_c0 _ _
      have fl : ys.flatten.length ≤ 499 := by
        rw [← efs, List.length_cons] at hz
        omega
      obtain ⟨yl, yg⟩ := mapO_get hy
      refine rn_seq (rn_set (ev_lc_filter (ei_zip (ea_cons (ev_slT (ev_var rfl ⟨_, etd, eo_some (ev_int ⟨_, rfl, eo_none ⟨cut_part, ea_cons (ev_kix (ev_ref (ev_ix (ev_var rfl (ev_int ⟨_, c0, ?_⟩)))))⟩⟩)⟩))))))
      refine ⟨_, _, sv, _, rfl, rfl, kd, kt.den, ea_nil ⟨_, _, .inr (by rw [cutD_sy]), zsm, itD, isSy, fun d hd => ?_, ?_⟩⟩
      · obtain ⟨i, hi⟩ := List.getElem?_of_mem hd
        obtain ⟨x, k, hx, hk, rfl⟩ := zip_of hi
        refine eg_pair (by decide) (by decide) ?_
        walk_at "dm"
        exact ⟨rfl, fun h => ev_var rfl rfl⟩
      rw [e0]
      try dsimp only [List.set]
      refine rn_ret (ev_lst (ea_cons (ev_var rfl (ea_star (ev_lc2 (ei_list (ev_var rfl ⟨toDs ρ (partsS xs ks), rfl, fun i acc => acc = toDs ρ ((ys.take i).flatten), rfl, fun i d acc hd hI => ?_, fun acc h => ?_⟩)))))))
      · subst hI
        rw [toDs_map, List.getElem?_map] at hd
        obtain ⟨x, hx, rfl⟩ := Option.map_eq_some_iff.mp hd
        obtain ⟨y, hyi, hfx⟩ := yg i x hx
        have ylen : ((ys.take i).flatten).length + y.length ≤ 499 := by
          have h1 := flat_len (ys := ys) (i + 1)
          rw [flat_take hyi, List.length_append] at h1
          omega
        refine eg_name (by decide) (et_yes (iT rfl ?_))
        refine ei_list (ev_call (ea_cons (ev_var rfl (ea_nil ⟨rfl, x, y, rfl, wx x (parts_mem (List.mem_of_getElem? hx)), hfx, by omega, _, rfl, fun j acc => acc = toDs ρ ((ys.take i).flatten ++ y.take j), ?_, fun j e2 acc hd2 hI2 => ?_, fun acc h => ?_⟩))))
        · show toDs ρ ((ys.take i).flatten) = toDs ρ ((ys.take i).flatten ++ y.take 0)
          rw [List.take_zero, List.append_nil]
        · subst hI2
          rw [toDs_map, List.getElem?_map] at hd2
          obtain ⟨u, hu, rfl⟩ := Option.map_eq_some_iff.mp hd2
          refine eg_name (by decide) (et_yes (iT rfl (ev_var rfl ⟨?_, ?_⟩)))
          · rw [toDs_len, List.length_append, List.length_take, sizeLine_eq]
            omega
          · show toDs ρ ((ys.take i).flatten ++ y.take j) ++ [toD ρ u] = toDs ρ ((ys.take i).flatten ++ y.take (j + 1))
            rw [List.take_add_one, hu, ← List.append_assoc, toDs_app ρ ((ys.take i).flatten ++ y.take j) (some u).toList]
            rfl
        · have h : acc = toDs ρ ((ys.take i).flatten ++ y.take (toDs ρ y).length) := h
          show acc = toDs ρ ((ys.take (i + 1)).flatten)
          rw [h, toDs_len, List.take_length, flat_take hyi]
      · have h : acc = toDs ρ ((ys.take (toDs ρ (partsS xs ks)).length).flatten) := h
        rw [toDs_len, ← yl, List.take_length] at h
        subst h
        refine ⟨_, .inr rfl, ea_nil ⟨?_, ?_⟩⟩
        · rw [List.append_nil, List.length_cons, toDs_len, sizeLine_eq]
          omega
        · rw [List.append_nil]
          rw [← efs] at p
          exact p
/-! ### table_uses -/
def useD : D → Bool
  | .tup (.str z :: _) => decide (z = "has") || decide (z = "link")
  | _ => false
def usD : D → D
  | .tup (_ :: .str y :: xs) => .tph [.inr y, .inl (xs.length : Nat)]
  | d => d
def uKey (ρ : Nat → Str) (u : Nat × Nat) : List Key := [.inr (ρ u.1), .inl (u.2 : Nat)]
theorem uses_D {ρ : Nat → Str} : ∀ (fs : List Sy) (us : List (Nat × Nat)), usesS fs = some us → ((toDs ρ fs).filter useD).map usD = us.map fun u => D.tph (uKey ρ u)
  | [], us, h => by cases h; rfl
  | f :: fs, us, h => by
    obtain ⟨ys, hy, rfl⟩ := Option.map_eq_some_iff.mp h
    obtain ⟨y, zs, e, hz, rfl⟩ := mapO_some hy
    have ih := uses_D (ρ := ρ) fs zs.flatten (by unfold usesS; rw [hz]; rfl)
    have e1 : ((toDs ρ [f]).filter useD).map usD = y.map fun u => D.tph (uKey ρ u) := by
      cases f with
      | tp ys =>
        cases ys with
        | nil => cases e
        | cons x xs =>
          cases x with
          | at_ d =>
            cases d with
            | str z =>
              have e : (if z = "has" || z = "link" then (match xs with | .nm i :: _ => some [(i, xs.length - 1)] | _ => none) else some []) = some y := e
              have eu : useD (toD ρ (.tp (.at_ (.str z) :: xs))) = (decide (z = "has") || decide (z = "link")) := rfl
              show List.map usD (List.filter useD [toD ρ (.tp (.at_ (.str z) :: xs))]) = _
              rw [List.filter_cons, eu]
              by_cases c : (decide (z = "has") || decide (z = "link")) = true
              · rw [if_pos c] at e
                rw [if_pos c]
                cases xs with
                | nil => cases e
                | cons x2 xs =>
                  cases x2 with
                  | nm i =>
                    cases e
                    show [D.tph [.inr (ρ i), .inl ((toDs ρ xs).length : Nat)]] = [D.tph [.inr (ρ i), .inl (((.nm i :: xs : List Sy).length - 1 : Nat) : Int)]]
                    rw [toDs_len, List.length_cons, Nat.add_sub_cancel]
                  | _ => cases e
              · rw [if_neg c] at e
                rw [if_neg c]
                cases e
                rfl
            | _ => cases e
          | _ => cases e
      | _ => cases e
    show ((toDs ρ ([f] ++ fs)).filter useD).map usD = _
    rw [toDs_app, List.filter_append, List.map_append, e1, ih, List.flatten_cons, List.map_append]
def fUses (ρ : Nat → Str) : Bx → List D → (D → Prop) → Prop := fun _ ds P => ∃ (v : Sy) (fs : List Sy) (us : List (Nat × Nat)), ds = [toD ρ v] ∧ Wf v ∧ formsS 7 v = some fs ∧ fs.length ≤ 500 ∧ usesS fs = some us ∧ P (.lst (us.map fun u => D.tph (uKey ρ u)))
theorem use_ok {fs : List Sy} {us : List (Nat × Nat)} (h : usesS fs = some us) : ∀ f, f ∈ fs → ∃ z xs, f = .tp (.at_ (.str z) :: xs) ∧ ((decide (z = "has") || decide (z = "link")) = true → ∃ i ys, xs = .nm i :: ys) := by
  intro f m
  obtain ⟨ys, hy, _⟩ := Option.map_eq_some_iff.mp h
  obtain ⟨i, hi⟩ := List.getElem?_of_mem m
  obtain ⟨y, _, e⟩ := (mapO_get hy).2 i f hi
  cases f with
  | tp ys =>
    cases ys with
    | nil => cases e
    | cons x xs =>
      cases x with
      | at_ d =>
        cases d with
        | str z =>
          refine ⟨z, xs, rfl, fun c => ?_⟩
          have e : (if z = "has" || z = "link" then (match xs with | .nm i :: _ => some [(i, xs.length - 1)] | _ => none) else some []) = some y := e
          rw [if_pos c] at e
          cases xs with
          | nil => cases e
          | cons x2 xs =>
            cases x2 with
            | nm i => exact ⟨i, xs, rfl⟩
            | _ => cases e
        | _ => cases e
      | _ => cases e
  | _ => cases e
theorem ok_table_uses {ρ : Nat → Str} {k0 : Nat} {fd : FuncData} (F : Fun K "table_uses" "table_uses" s_table_uses a_table_uses fd) (T : Txt K mg a_copied a_as_items a_is_name a_is_number a_number_in a_is_test a_has_shape a_is_saying a_is_item a_sayings_in a_table_uses a_is_within_limits a_words_of a_word_at a_read_saying a_read_item a_read_test a_are_names a__law_box a__law_pull a__law_of a__law_words a__law_same a__law_field a__law_got a_OnceError a_InvalidNames a_InvalidSaying a_InvalidText a_Missing a_NothingLeft a_Question a_SHAPES a_TESTS t_DEEPEST_COPY t_LETTERS t_DIGITS t_LONGEST_NAME t_LONGEST_NUMBER t_MOST_FORMS t_MOST_DEEP t_MOST_SCOPE t_MOST_BOUND t_MOST_NAMES) (C_sayings_in : Cal P w K mg base k0 a_sayings_in ["saying"] (SpD K 1 (fForms ρ 7))) :
    FnOk P w K mg base CX0 (k0 + 1) a_table_uses fd ["saying"] (SpD K 1 (fUses ρ)) := by
  obtain ⟨fd_sayings_in, G_sayings_in, kp_sayings_in, b_sayings_in⟩ := C_sayings_in.ex
  refine F.ok sc_table_uses (fun vs H Q E h => h.1) (fun cdv A outer s H vs Q E hr h => ?_)
  obtain ⟨hl, B, M, ds, Pd, g, hd, ⟨v, fs, us, rfl, wf, hf, hz, hu, p⟩, q⟩ := h
  refine ⟨_, (pss_one (ps_ret (pe_lc (own := [("form", 1)]) (g := (gName 1)) (tt := _) (by rfl) sc_table_uses.nd (pi_list (pe_call G_sayings_in (hr.mono (by omega)) (by rfl) T.m_sayings_in kp_sayings_in b_sayings_in .nil pass0 (pa_cons (pv 0) pa_nil))) (blkOk_by (own := [("form", 1)]) (N := N_table_uses) (sc := defScope s_table_uses) (by decide +kernel)) (fun _ _ _ _ _ => (pg_name (i := 1) sc_table_uses.nd rfl (Or.inl rfl))) (fun _ _ _ _ _ => pts_one (pt_cmpR (RD.op_in_seqK K) (pe_ix (ix_seqK K) (pv 1) pe_int (fun _ _ => rfl)) (pe_tup (pa_cons pe_str (pa_cons pe_str pa_nil))) rfl)) (fun _ _ _ _ _ => (pe_tup (pa_cons (pe_ix (ix_seqK K) (pv 1) pe_int (fun _ _ => rfl)) (pa_cons (pe_op op_sub (pe_callB (XL.call_lenD K) (by rfl) T.n_len PySem.boot_len (pa_cons (pv 1) pa_nil)) pe_int) pa_nil))))))), ?_⟩
  refine run_body g hd q ?_
  try dsimp only [cxOf]
  refine rn_ret (ev_lc_filter (ei_list (ev_call (ea_cons (ev_var rfl (ea_nil ⟨rfl, v, fs, rfl, wf, hf, hz, _, rfl, by rw [toDs_len, sizeLine_eq]; omega, usD, useD, fun d hd => ?_, ?_⟩))))))
  · rw [toDs_map] at hd
    obtain ⟨f, hfm, rfl⟩ := List.mem_map.mp hd
    obtain ⟨z, xs, rfl, hx⟩ := use_ok hu f hfm
    refine eg_name (by decide) ?_
    refine et_test (ev_inS (ev_ix (ev_var rfl (ev_int ⟨_, item_c0 _ _, ev_tup ?_⟩))))
    walk_at "dm"
    refine ⟨_, .inl rfl, rfl, rfl, _, rfl, ?_, fun hk => ?_⟩
    · show (((("has" : Str) == z) || ((("link" : Str) == z) || false))) = (decide (z = "has") || decide (z = "link"))
      rw [Bool.or_false, str_beq, str_beq]
    · have hk : ((("has" : Str) == z) || ((("link" : Str) == z) || false)) = true := hk
      rw [Bool.or_false, str_beq, str_beq] at hk
      obtain ⟨i, ys, rfl⟩ := hx hk
      refine ev_tupH (ea_cons (ev_ix (ev_var rfl (ev_int ⟨_, item_c1 _ _ _, ?_⟩))))
      walk_at "dm"
      refine ⟨[.inr (ρ i), .inl (ys.length : Nat)], ?_, small_n (Nat.le_of_ble_eq_true rfl), ?_⟩
      · rw [toDs_len, List.length_cons, List.length_cons]
        show [D.str (ρ i), D.int (((ys.length + 1 + 1 : Nat) : Int) - 2)] = [D.str (ρ i), D.int (ys.length : Nat)]
        rw [show ((ys.length + 1 + 1 : Nat) : Int) - 2 = ((ys.length : Nat) : Int) by omega]
      · show D.tph [.inr (ρ i), .inl (ys.length : Nat)] = D.tph [.inr (ρ i), .inl ((toDs ρ ys).length : Nat)]
        rw [toDs_len]
  · rw [uses_D fs us hu]
    exact p
end
end KL

set_option maxHeartbeats 4000000
namespace KL
open PySem PySem.Spec PyProof.Rows L2 RZ XE TL DL RD RE XA XB XC XD XK
local macro_rules | `(tactic| walk_at "dl1") => `(tactic| first
  | with_reducible refine rn_seq ?_
  | with_reducible refine rn_if ?_
  | with_reducible refine rn_ret ?_
  | with_reducible refine rn_set ?_
  | with_reducible refine rn_drop ?_
  | with_reducible refine rn_next ?_
  | with_reducible refine et_test ?_
  | with_reducible refine et_B ?_
  | with_reducible refine et_not ?_
  | with_reducible refine et_and ?_
  | with_reducible refine et_or ?_
  | ((with_reducible refine' ev_var ?k1 ?_); (case k1 => exact rfl))
  | with_reducible refine ev_int ?_
  | with_reducible refine ev_str ?_
  | with_reducible refine ev_bl ?_
  | with_reducible refine ev_non ?_
  | with_reducible refine ev_ty ?_
  | with_reducible refine ea_nil ?_
  | with_reducible refine ea_cons ?_
  | with_reducible refine ev_andV ?_
  | with_reducible refine ev_orV ?_
  | with_reducible refine ev_notV ?_
  | with_reducible refine ev_chain ?_
  | with_reducible refine ev_len ?_
  | with_reducible refine ev_all ?_
  | with_reducible refine ev_join ?_
  | with_reducible refine ev_I0 ?_
  | with_reducible refine ev_B0 ?_
  | with_reducible refine ev_I ?_
  | with_reducible refine ev_eq ?_
  | with_reducible refine ev_ne ?_
  | with_reducible refine ev_isN ?_
  | with_reducible refine ev_notN ?_
  | with_reducible refine ev_tup ?_
  | with_reducible refine ev_lst ?_
  | with_reducible refine ev_ix ?_
  | with_reducible refine ev_cat ?_
  | with_reducible refine ev_rep ?_
  | with_reducible refine ev_mulS ?_
  | with_reducible refine ev_add_str ?_
  | with_reducible refine ev_slS ?_
  | with_reducible refine ev_slL ?_
  | with_reducible refine eo_none ?_
  | with_reducible refine eo_some ?_
  | with_reducible refine ev_in_sign ?_
  | with_reducible refine ev_is ?_
  | refine ev_is2 (m := .list) (m' := .tuple) ?_
  | with_reducible refine ev_call ?_)
local macro_rules | `(tactic| walk_at "dl2") => `(tactic| first
  | (refine ⟨_, rfl, ?_⟩; done)
  | (with_reducible refine ⟨_, rfl, ?_⟩)
  | (with_reducible refine ⟨_, _, rfl, rfl, ?_⟩)
  | (refine ⟨_, .str, rfl, rfl, ?_⟩)
  | (refine ⟨_, .int, rfl, rfl, ?_⟩)
  | (refine ⟨_, .bool, rfl, rfl, ?_⟩)
  | (refine ⟨_, .list, rfl, rfl, ?_⟩)
  | (refine ⟨_, .tuple, rfl, rfl, ?_⟩)
  | (refine ⟨rfl, _, rfl, ?_⟩)
  | (refine iT rfl ?_)
  | (refine iF rfl ?_))
local macro_rules | `(tactic| walk_at "dl4") => `(tactic| first
  | with_reducible refine ev_tupleOf ?_
  | with_reducible refine rn_par ?_
  | with_reducible refine ev_ifE ?_
  | with_reducible refine ev_strA ?_
  | with_reducible refine ev_neg ?_
  | with_reducible refine ev_fmt ?_
  | with_reducible refine ev_split ?_
  | with_reducible refine ev_eqP ?_
  | with_reducible refine ev_neP ?_
  | with_reducible refine ev_kin ?_
  | with_reducible refine ev_kix ?_
  | with_reducible refine ea_star ?_
  | with_reducible refine ev_inS ?_
  | with_reducible refine rw_next ?_
  | (with_reducible refine rw_seq ?_)
  | with_reducible refine rw_ret ?_
  | with_reducible refine ev_fld ?_
  | with_reducible refine ev_slT ?_
  | with_reducible refine ev_neg ?_
  | with_reducible refine ev_int1 ?_
  | with_reducible refine ev_dget ?_
  | with_reducible refine ev_catT ?_
  | with_reducible refine rn_par3 ?_
  | with_reducible refine ev_ref ?_)
local macro_rules | `(tactic| walk_at "dn") => `(tactic| repeat first | walk_at "dl1" | walk_at "dl4" | walk_at "dl2")
local macro_rules | `(tactic| walk_at "dl3") => `(tactic| first
  | (refine ⟨rfl, fun _ e => (by cases e <;> first | omega | decide), ?_⟩)
  | (refine ⟨small_n (Nat.le_of_ble_eq_true rfl), ?_⟩)
  | (refine ⟨_, _, _, rfl, rfl, ?_⟩)
  | (refine ⟨rfl, _, _, _, rfl, rfl, ?_⟩)
  | (refine ⟨rfl, _, _, rfl, rfl, (by decide), (by decide), ?_⟩)
  | (refine ⟨(show CPow _ _ from ⟨by decide, by decide, by decide⟩), ?_⟩)
  | (refine ⟨(show CMul _ _ from .inl ⟨by decide, by decide⟩), ?_⟩)
  | with_reducible refine et_yes ?_)
local macro_rules | `(tactic| walk_at "pl") => `(tactic| first
  | exact Pl.bl _ | exact Pl.int _ | exact Pl.str _ | exact Pl.non
  | refine Pl.ofL ?_ (Nat.le_of_ble_eq_true rfl) | refine Pl.ofT ?_ (Nat.le_of_ble_eq_true rfl)
  | exact PlL.nil | refine PlL.cons ?_ ?_)
local macro_rules | `(tactic| walk_at "dm") => `(tactic| repeat first | walk_at "dl1" | walk_at "dl4" | walk_at "dl2" | walk_at "dl3")
local macro_rules | `(tactic| walk_at "dl") => `(tactic| repeat first | walk_at "dl1" | walk_at "dl2" | walk_at "dl3")
section
variable {P : Program} {w : World} {K : PySem.W.Frag} {mg : Str → Option Value} {base : Heap} {a_copied : Addr} {a_as_items : Addr} {a_is_name : Addr} {a_is_number : Addr} {a_number_in : Addr} {a_is_test : Addr} {a_has_shape : Addr} {a_is_saying : Addr} {a_is_item : Addr} {a_sayings_in : Addr} {a_table_uses : Addr} {a_is_within_limits : Addr} {a_words_of : Addr} {a_word_at : Addr} {a_read_saying : Addr} {a_read_item : Addr} {a_read_test : Addr} {a_are_names : Addr} {a__law_box : Addr} {a__law_pull : Addr} {a__law_of : Addr} {a__law_words : Addr} {a__law_same : Addr} {a__law_field : Addr} {a__law_got : Addr} {a_OnceError : Addr} {a_InvalidNames : Addr} {a_InvalidSaying : Addr} {a_InvalidText : Addr} {a_Missing : Addr} {a_NothingLeft : Addr} {a_Question : Addr} {a_SHAPES : Addr} {a_TESTS : Addr} {t_DEEPEST_COPY : Tok} {t_LETTERS : Tok} {t_DIGITS : Tok} {t_LONGEST_NAME : Tok} {t_LONGEST_NUMBER : Tok} {t_MOST_FORMS : Tok} {t_MOST_DEEP : Tok} {t_MOST_SCOPE : Tok} {t_MOST_BOUND : Tok} {t_MOST_NAMES : Tok} 

/-! ### InvalidSaying, a question refused for its saying, or made -/
structure Rz (P : Program) (w : World) (K : PySem.W.Frag) (mg : Str → Option Value) (base : Heap) (k : Nat) (x : Str) (C : Addr) (ns : List Str) (F : Bx → List D → (List D → Prop) → Prop) : Prop where
  mkr : Mkr P w K mg base k x C 1 ns F
  rs : XRs K C
def fGiven (code : Str) : Bx → List D → (List D → Prop) → Prop := fun _ ds P => ∃ d, ds = [d] ∧ Pl 4 d ∧ P [d, D.str code]
theorem ok_InvalidSaying___init__ {fd : FuncData} {i_ : Addr} (F : Fun K "__init__" "InvalidSaying.__init__" s_InvalidSaying___init__ i_ fd) (T : Txt K mg a_copied a_as_items a_is_name a_is_number a_number_in a_is_test a_has_shape a_is_saying a_is_item a_sayings_in a_table_uses a_is_within_limits a_words_of a_word_at a_read_saying a_read_item a_read_test a_are_names a__law_box a__law_pull a__law_of a__law_words a__law_same a__law_field a__law_got a_OnceError a_InvalidNames a_InvalidSaying a_InvalidText a_Missing a_NothingLeft a_Question a_SHAPES a_TESTS t_DEEPEST_COPY t_LETTERS t_DIGITS t_LONGEST_NAME t_LONGEST_NUMBER t_MOST_FORMS t_MOST_DEEP t_MOST_SCOPE t_MOST_BOUND t_MOST_NAMES) {fb : FuncData} {i_OnceError : Addr} (XC_OnceError : XCal K a_OnceError i_OnceError) (F_OnceError___init__ : Fun K "__init__" "OnceError.__init__" s_OnceError___init__ i_OnceError fb) (b_OnceError___init__ : Binds K fb ["self", "code"] [])
    {fc : FuncData} (F_copied : FunD K "copied" "copied" (defArgs s_copied) (defBody s_copied) (defScope s_copied) [.int 40] [] a_copied fc) (b_copied : Binds K fc ["value", "deep"] []) {ds0 : List Value} (vD_copied : Vals [V.int 40] ds0) (bD_copied : Binds K fc ["value", "deep"] ds0) :
    FnOk P w K mg base CX0 6 i_ fd ["self", "given"] (SpX K 1 ["given", "code"] (fGiven "InvalidSaying")) := by
  have G_OnceError___init__ := ok_OnceError___init__ (P := P) (w := w) (base := base) F_OnceError___init__ T
  have G_copied := ok_copied (P := P) (w := w) (base := base) F_copied T b_copied 5
  have kp_copied := F_copied.kp
  refine F.ok sc_InvalidSaying___init__ (fun vs H Q E h => ?_) (fun cdv A outer s H vs Q E hr h => ?_)
  · obtain ⟨B, M, a, C, us, ds, P0, rfl, hl, _⟩ := h
    show us.length + 1 = 2
    omega
  refine ⟨_, (pss_cons (ps_expr (pe_xinit XC_OnceError G_OnceError___init__ (hr.mono (by omega)) F_OnceError___init__.kp b_OnceError___init__ pass0 (by rfl) T.m_OnceError (pa_cons (pv 0) (pa_cons pe_str pa_nil))))
 (pss_one (ps_xst (pv 0) (pe_call G_copied (hr.mono (by omega)) (by rfl) T.m_copied kp_copied bD_copied vD_copied pass0 (pa_cons (pv 1) pa_nil))))), ?_⟩
  refine run_init h (fun B a C ds Pd hl st hF => ?_)
  try dsimp only [cxOf]
  obtain ⟨d, rfl, hp, p⟩ := hF
  refine x0_seq (x0_base rfl (fun f hf => st f (by simp at hf ⊢; simp [hf])) (ea_cons (ev_str (ea_nil ⟨rfl, _, rfl, ?_⟩))))
  exact x1_store rfl (st _ (by simp)) (by decide) (ev_callD (dds := [D.int 40]) (fun H => DenAll.cons (.int 40) .nil) (ea_cons (ev_var rfl (ea_nil ⟨rfl, d, 40, rfl, hp, rfl, p⟩))))

mutual
theorem sy_Pl {ρ : Nat → Str} : ∀ (s : Sy) (n : Nat), wfS s = true → depS s ≤ n → Pl n (toD ρ s)
  | .nm i, _, _, _ => .str _
  | .at_ d, n, h, _ => by
    have h1 : (flatD d && txtOk d) = true := h
    rw [Bool.and_eq_true] at h1
    cases d with
    | non => exact .non
    | bl b => exact .bl b
    | int b => exact .int b
    | str b => exact .str b
    | _ => cases h1.1
  | .tp xs, n, h, hn => by
    have h1 : (decide (xs.length ≤ 100) && wfSs xs) = true := h
    rw [Bool.and_eq_true, decide_eq_true_eq] at h1
    have h2 : depSs xs + 1 ≤ n := hn
    obtain ⟨m, rfl⟩ : ∃ m, n = m + 1 := ⟨n - 1, by omega⟩
    exact .tup (sys_Pl xs m h1.2 (by omega)) (by rw [toDs_len]; omega)
  | .ls xs, n, h, hn => by
    have h1 : (decide (xs.length ≤ 100) && wfSs xs) = true := h
    rw [Bool.and_eq_true, decide_eq_true_eq] at h1
    have h2 : depSs xs + 1 ≤ n := hn
    obtain ⟨m, rfl⟩ : ∃ m, n = m + 1 := ⟨n - 1, by omega⟩
    exact .lst (sys_Pl xs m h1.2 (by omega)) (by rw [toDs_len]; omega)
theorem sys_Pl {ρ : Nat → Str} : ∀ (xs : List Sy) (n : Nat), wfSs xs = true → depSs xs ≤ n → ∀ d, d ∈ toDs ρ xs → Pl n d
  | [], _, _, _, d, m => by cases m
  | x :: xs, n, h, hn, d, m => by
    have h1 : (wfS x && wfSs xs) = true := h
    rw [Bool.and_eq_true] at h1
    have h2 : max (depS x) (depSs xs) ≤ n := hn
    rcases List.mem_cons.mp (show d ∈ toD ρ x :: toDs ρ xs from m) with e | m
    · rw [e]; exact sy_Pl x n h1.1 (by omega)
    · exact sys_Pl xs n h1.2 (by omega) d m
end
theorem goodS_of {v : Sy} {sc : List Sy} (h : goodS v sc = true) : sayS 6 v sc = some true ∧ ∃ fs us, formsS 7 v = some fs ∧ fs.length ≤ 12 ∧ usesS fs = some us ∧ us.length ≤ 1 := by
  unfold goodS at h
  rw [Bool.and_eq_true, decide_eq_true_eq] at h
  refine ⟨h.1, ?_⟩
  have h2 := h.2
  cases e : formsS 7 v with
  | none => rw [e] at h2; cases h2
  | some fs =>
    rw [e] at h2
    have h2 : (decide (fs.length ≤ 12) && (match usesS fs with | some us => decide (us.length ≤ 1) | none => false)) = true := h2
    rw [Bool.and_eq_true, decide_eq_true_eq] at h2
    cases e2 : usesS fs with
    | none => rw [e2] at h2; cases h2.2
    | some us =>
      rw [e2] at h2
      exact ⟨fs, us, rfl, h2.1, e2, of_decide_eq_true h2.2⟩
def fWithinS (ρ : Nat → Str) : Bx → List D → (D → Prop) → Prop := fun _ ds P => ∃ (v : Sy) (names : List Sy), ds = [.lst (toDs ρ names), toD ρ v] ∧ Wf v ∧ Sco names ∧ ((sayS 6 v names = some false ∧ P (.bl false)) ∨ (goodS v names = true ∧ P (.bl true)))
theorem ok_within {ρ : Nat → Str} {k0 : Nat} (h0 : 8 ≤ k0) {fd : FuncData} (F : Fun K "is_within_limits" "is_within_limits" s_is_within_limits a_is_within_limits fd) (T : Txt K mg a_copied a_as_items a_is_name a_is_number a_number_in a_is_test a_has_shape a_is_saying a_is_item a_sayings_in a_table_uses a_is_within_limits a_words_of a_word_at a_read_saying a_read_item a_read_test a_are_names a__law_box a__law_pull a__law_of a__law_words a__law_same a__law_field a__law_got a_OnceError a_InvalidNames a_InvalidSaying a_InvalidText a_Missing a_NothingLeft a_Question a_SHAPES a_TESTS t_DEEPEST_COPY t_LETTERS t_DIGITS t_LONGEST_NAME t_LONGEST_NUMBER t_MOST_FORMS t_MOST_DEEP t_MOST_SCOPE t_MOST_BOUND t_MOST_NAMES) (C_is_saying : Cal P w K mg base k0 a_is_saying ["value", "scope", "deep"] (SpD K 3 (fSay ρ 6)))
    (C_sayings_in : Cal P w K mg base 7 a_sayings_in ["saying"] (SpD K 1 (fForms ρ 7))) (C_table_uses : Cal P w K mg base 8 a_table_uses ["saying"] (SpD K 1 (fUses ρ))) :
    FnOk P w K mg base CX0 (k0 + 1) a_is_within_limits fd ["names", "saying"] (SpD K 2 (fWithinS ρ)) := by
  obtain ⟨fd_is_saying, G_is_saying, kp_is_saying, b_is_saying⟩ := C_is_saying.ex
  obtain ⟨fd_sayings_in, G_sayings_in, kp_sayings_in, b_sayings_in⟩ := C_sayings_in.ex
  obtain ⟨fd_table_uses, G_table_uses, kp_table_uses, b_table_uses⟩ := C_table_uses.ex
  refine F.ok sc_is_within_limits (fun vs H Q E h => h.1) (fun cdv A outer s H vs Q E hr h => ?_)
  obtain ⟨hl, B, M, ds, Pd, g, hd, ⟨v, names, rfl, wf, hsc, hc⟩, q⟩ := h
  refine ⟨_, (pss_cons (ps_if (PW.pt (pw_or (pt_not (pt_val (pe_call G_is_saying (hr.mono (by omega)) (by rfl) T.m_is_saying kp_is_saying b_is_saying .nil pass0 (pa_cons (pv 1) (pa_cons (pv 0) (pa_cons (pe_glob (v := .int 6) (by rfl) T.c_MOST_DEEP ⟨_, rfl⟩) pa_nil)))))) (pw_or1 (pt_cmpR op_gt (pe_callB call_len (by rfl) T.n_len PySem.boot_len (pa_cons (pe_call G_sayings_in (hr.mono (by omega)) (by rfl) T.m_sayings_in kp_sayings_in b_sayings_in .nil pass0 (pa_cons (pv 1) pa_nil)) pa_nil)) (pe_glob (v := .int 12) (by rfl) T.c_MOST_FORMS ⟨_, rfl⟩) (nomark _)))))
 (pss_one (ps_ret pe_bl))
 pss_nil)
 (pss_cons (ps_set (i := 2) sc_is_within_limits.nd rfl (Or.inl rfl) (pe_call G_table_uses (hr.mono (by omega)) (by rfl) T.m_table_uses kp_table_uses b_table_uses .nil pass0 (pa_cons (pv 1) pa_nil)))
 (pss_one (ps_ret (pe_cmpR op_eq (YB.pe_lenSetK hr.units rfl (by rfl) T.n_len (by rfl) T.n_set (pv 2)) (pe_callB YB.call_lenS (by rfl) T.n_len PySem.boot_len (pa_cons (YB.pe_scS (own := [("use", 3)]) (g := (gName 3)) (tt := tYes) (by rfl) sc_is_within_limits.nd (pi_list (pv 2)) (blkOk_by (own := [("use", 3)]) (N := N_is_within_limits) (sc := defScope s_is_within_limits) (by decide +kernel)) (fun _ _ _ _ _ => (pg_name (i := 3) sc_is_within_limits.nd rfl (Or.inl rfl))) (fun _ _ _ _ _ => pts_nil) (fun _ _ _ _ _ => (pe_ix (ix_seqK K) (pv 3) pe_int (fun _ _ => rfl)))) pa_nil)) (nomark _)))))), ?_⟩
  refine run_body g hd q ?_
  try dsimp only [cxOf]
  rcases hc with ⟨hs, p⟩ | ⟨hg, p⟩
  · refine rn_seq (rn_if (et_or (et_not (et_B (ev_call (ea_cons (ev_var rfl (ea_cons (ev_var rfl (ea_cons (ev_int (ea_nil ⟨rfl, v, true, names, false, rfl, wf, hsc, hs, _, rfl, iT rfl (iT rfl ?_)⟩))))))))))))
    walk_at "dm"
    exact p
  · obtain ⟨hs, fs, us, hf, f12, hu, u1⟩ := goodS_of hg
    refine rn_seq (rn_if (et_or (et_not (et_B (ev_call (ea_cons (ev_var rfl (ea_cons (ev_var rfl (ea_cons (ev_int (ea_nil ⟨rfl, v, true, names, true, rfl, wf, hsc, hs, _, rfl, iF rfl ?_⟩))))))))))))
    refine et_test (ev_B0 (ev_len (ea_cons (ev_call (ea_cons (ev_var rfl (ea_nil ⟨rfl, v, fs, rfl, wf, hf, by omega, ea_nil ⟨_, fs.length, rfl, ?_, ev_int ⟨_, _, rfl, rfl, _, rfl, iF (decide_eq_false (by omega)) ?_⟩⟩⟩)))))))
    · show some (toDs ρ fs).length = some fs.length
      rw [toDs_len]
    refine rn_next ?_
    refine rn_seq (rn_set (ev_call (ea_cons (ev_var rfl (ea_nil ⟨rfl, v, fs, us, rfl, wf, hf, by omega, hu, ?_⟩)))))
    try dsimp only [List.set]
    cases us with
    | nil =>
      refine rn_ret (ev_eq (ev_lenSetK (ev_var rfl ⟨_, rfl, .inl ⟨rfl, ev_lenScS (ei_list (ev_var rfl ⟨_, rfl, Nat.zero_le _, fun _ zs => zs = [], rfl, (fun i d zs h => by simp at h), fun zs hI => ?_⟩))⟩⟩)))
      subst hI
      exact ⟨_, rfl, p⟩
    | cons u us =>
      have e : us = [] := by
        cases us with
        | nil => rfl
        | cons _ _ => simp at u1
      subst e
      refine rn_ret (ev_eq (ev_lenSetK (ev_var rfl ⟨_, rfl, .inr ⟨uKey ρ u, rfl, ev_lenScS (ei_list (ev_var rfl ⟨_, rfl, Nat.le_of_ble_eq_true rfl, fun i zs => zs = if i = 0 then [] else [ρ u.1], rfl, fun i d zs hd hI => ?_, fun zs hI => ?_⟩))⟩⟩)))
      · have hi : i = 0 := by
          have := (List.getElem?_eq_some_iff.mp hd).1
          simp at this
          exact this
        subst hi
        have hd := Option.some.inj hd
        subst hd
        subst hI
        refine eg_name (by decide) (et_yes (iT rfl (ev_ix (ev_wk (ev_var rfl (ev_int ⟨.str (ρ u.1), ?_, ρ u.1, rfl, rfl⟩))))))
        exact item_c0 _ _
      · have hI : zs = [ρ u.1] := hI
        subst hI
        exact ⟨_, rfl, p⟩
end
end KL

set_option maxHeartbeats 4000000
namespace KL
open PySem PySem.Spec PyProof.Rows L2 RZ XE TL DL RD RE XA XB XC XD XK
local macro_rules | `(tactic| walk_at "dl1") => `(tactic| first
  | with_reducible refine rn_seq ?_
  | with_reducible refine rn_if ?_
  | with_reducible refine rn_ret ?_
  | with_reducible refine rn_set ?_
  | with_reducible refine rn_drop ?_
  | with_reducible refine rn_next ?_
  | with_reducible refine et_test ?_
  | with_reducible refine et_B ?_
  | with_reducible refine et_not ?_
  | with_reducible refine et_and ?_
  | with_reducible refine et_or ?_
  | ((with_reducible refine' ev_var ?k1 ?_); (case k1 => exact rfl))
  | with_reducible refine ev_int ?_
  | with_reducible refine ev_str ?_
  | with_reducible refine ev_bl ?_
  | with_reducible refine ev_non ?_
  | with_reducible refine ev_ty ?_
  | with_reducible refine ea_nil ?_
  | with_reducible refine ea_cons ?_
  | with_reducible refine ev_andV ?_
  | with_reducible refine ev_orV ?_
  | with_reducible refine ev_notV ?_
  | with_reducible refine ev_chain ?_
  | with_reducible refine ev_len ?_
  | with_reducible refine ev_all ?_
  | with_reducible refine ev_join ?_
  | with_reducible refine ev_I0 ?_
  | with_reducible refine ev_B0 ?_
  | with_reducible refine ev_I ?_
  | with_reducible refine ev_eq ?_
  | with_reducible refine ev_ne ?_
  | with_reducible refine ev_isN ?_
  | with_reducible refine ev_notN ?_
  | with_reducible refine ev_tup ?_
  | with_reducible refine ev_lst ?_
  | with_reducible refine ev_ix ?_
  | with_reducible refine ev_cat ?_
  | with_reducible refine ev_rep ?_
  | with_reducible refine ev_mulS ?_
  | with_reducible refine ev_add_str ?_
  | with_reducible refine ev_slS ?_
  | with_reducible refine ev_slL ?_
  | with_reducible refine eo_none ?_
  | with_reducible refine eo_some ?_
  | with_reducible refine ev_in_sign ?_
  | with_reducible refine ev_is ?_
  | refine ev_is2 (m := .list) (m' := .tuple) ?_
  | with_reducible refine ev_call ?_)
local macro_rules | `(tactic| walk_at "dl2") => `(tactic| first
  | (refine ⟨_, rfl, ?_⟩; done)
  | (with_reducible refine ⟨_, rfl, ?_⟩)
  | (with_reducible refine ⟨_, _, rfl, rfl, ?_⟩)
  | (refine ⟨_, .str, rfl, rfl, ?_⟩)
  | (refine ⟨_, .int, rfl, rfl, ?_⟩)
  | (refine ⟨_, .bool, rfl, rfl, ?_⟩)
  | (refine ⟨_, .list, rfl, rfl, ?_⟩)
  | (refine ⟨_, .tuple, rfl, rfl, ?_⟩)
  | (refine ⟨rfl, _, rfl, ?_⟩)
  | (refine iT rfl ?_)
  | (refine iF rfl ?_))
local macro_rules | `(tactic| walk_at "dl4") => `(tactic| first
  | with_reducible refine ev_tupleOf ?_
  | with_reducible refine rn_par ?_
  | with_reducible refine ev_ifE ?_
  | with_reducible refine ev_strA ?_
  | with_reducible refine ev_neg ?_
  | with_reducible refine ev_fmt ?_
  | with_reducible refine ev_split ?_
  | with_reducible refine ev_eqP ?_
  | with_reducible refine ev_neP ?_
  | with_reducible refine ev_kin ?_
  | with_reducible refine ev_kix ?_
  | with_reducible refine ea_star ?_
  | with_reducible refine ev_inS ?_
  | with_reducible refine rw_next ?_
  | (with_reducible refine rw_seq ?_)
  | with_reducible refine rw_ret ?_
  | with_reducible refine ev_fld ?_
  | with_reducible refine ev_slT ?_
  | with_reducible refine ev_neg ?_
  | with_reducible refine ev_int1 ?_
  | with_reducible refine ev_dget ?_
  | with_reducible refine ev_catT ?_
  | with_reducible refine rn_par3 ?_
  | with_reducible refine ev_ref ?_)
local macro_rules | `(tactic| walk_at "dn") => `(tactic| repeat first | walk_at "dl1" | walk_at "dl4" | walk_at "dl2")
local macro_rules | `(tactic| walk_at "dl3") => `(tactic| first
  | (refine ⟨rfl, fun _ e => (by cases e <;> first | omega | decide), ?_⟩)
  | (refine ⟨small_n (Nat.le_of_ble_eq_true rfl), ?_⟩)
  | (refine ⟨_, _, _, rfl, rfl, ?_⟩)
  | (refine ⟨rfl, _, _, _, rfl, rfl, ?_⟩)
  | (refine ⟨rfl, _, _, rfl, rfl, (by decide), (by decide), ?_⟩)
  | (refine ⟨(show CPow _ _ from ⟨by decide, by decide, by decide⟩), ?_⟩)
  | (refine ⟨(show CMul _ _ from .inl ⟨by decide, by decide⟩), ?_⟩)
  | with_reducible refine et_yes ?_)
local macro_rules | `(tactic| walk_at "pl") => `(tactic| first
  | exact Pl.bl _ | exact Pl.int _ | exact Pl.str _ | exact Pl.non
  | refine Pl.ofL ?_ (Nat.le_of_ble_eq_true rfl) | refine Pl.ofT ?_ (Nat.le_of_ble_eq_true rfl)
  | exact PlL.nil | refine PlL.cons ?_ ?_)
local macro_rules | `(tactic| walk_at "dm") => `(tactic| repeat first | walk_at "dl1" | walk_at "dl4" | walk_at "dl2" | walk_at "dl3")
local macro_rules | `(tactic| walk_at "dl") => `(tactic| repeat first | walk_at "dl1" | walk_at "dl2" | walk_at "dl3")
section
variable {P : Program} {w : World} {K : PySem.W.Frag} {mg : Str → Option Value} {base : Heap} {a_copied : Addr} {a_as_items : Addr} {a_is_name : Addr} {a_is_number : Addr} {a_number_in : Addr} {a_is_test : Addr} {a_has_shape : Addr} {a_is_saying : Addr} {a_is_item : Addr} {a_sayings_in : Addr} {a_table_uses : Addr} {a_is_within_limits : Addr} {a_words_of : Addr} {a_word_at : Addr} {a_read_saying : Addr} {a_read_item : Addr} {a_read_test : Addr} {a_are_names : Addr} {a__law_box : Addr} {a__law_pull : Addr} {a__law_of : Addr} {a__law_words : Addr} {a__law_same : Addr} {a__law_field : Addr} {a__law_got : Addr} {a_OnceError : Addr} {a_InvalidNames : Addr} {a_InvalidSaying : Addr} {a_InvalidText : Addr} {a_Missing : Addr} {a_NothingLeft : Addr} {a_Question : Addr} {a_SHAPES : Addr} {a_TESTS : Addr} {t_DEEPEST_COPY : Tok} {t_LETTERS : Tok} {t_DIGITS : Tok} {t_LONGEST_NAME : Tok} {t_LONGEST_NUMBER : Tok} {t_MOST_FORMS : Tok} {t_MOST_DEEP : Tok} {t_MOST_SCOPE : Tok} {t_MOST_BOUND : Tok} {t_MOST_NAMES : Tok} 

/-! ### a question refused for its saying, or made -/
def qnN : List Str := ["names", "saying", "forms"]
structure Qst (K : PySem.W.Frag) (C aI : Addr) : Prop where
  cl : Cls K C
  mkr : Mk K C aI
  no : ∀ f, f ∈ qnN → NoAttr K C f
def abS : List Sy := [aS, bS]
theorem ab_sco : Sco abS := ⟨fun y m => by
  simp only [abS, List.mem_cons, List.not_mem_nil, or_false] at m
  rcases m with rfl | rfl <;> exact ⟨rfl, Nat.zero_le _⟩, Nat.le_of_ble_eq_true rfl⟩
def fQuestS (ρ : Nat → Str) (CS : Addr) : Bx → List D → (List D → Prop) → (Addr → List Str → List D → Prop) → Prop := fun _ ds P PX => ∃ v : Sy, ds = [.lst (toDs ρ abS), toD ρ v] ∧ Wf v ∧
  ((sayS 6 v abS = some false ∧ depS v ≤ 4 ∧ PX CS ["given", "code"] [toD ρ v, .str "InvalidSaying"]) ∨ (goodS v abS = true ∧ ∀ n : Nat, P [.tup (toDs ρ abS), toD ρ v, .int (n : Nat)]))
theorem once_two {x y : Str} (h : x ≠ y) : (XT.once [x, y]).length = 2 := by
  have e : (x == y) = false := beq_eq_false_iff_ne.mpr h
  simp [XT.once, Ne.symm h]
theorem ok_questS {ρ : Nat → Str} (R : Rho ρ) {a_i : Addr} {fd : FuncData} (F : Fun K "__init__" "Question.__init__" s_Question___init__ a_i fd) (T : Txt K mg a_copied a_as_items a_is_name a_is_number a_number_in a_is_test a_has_shape a_is_saying a_is_item a_sayings_in a_table_uses a_is_within_limits a_words_of a_word_at a_read_saying a_read_item a_read_test a_are_names a__law_box a__law_pull a__law_of a__law_words a__law_same a__law_field a__law_got a_OnceError a_InvalidNames a_InvalidSaying a_InvalidText a_Missing a_NothingLeft a_Question a_SHAPES a_TESTS t_DEEPEST_COPY t_LETTERS t_DIGITS t_LONGEST_NAME t_LONGEST_NUMBER t_MOST_FORMS t_MOST_DEEP t_MOST_SCOPE t_MOST_BOUND t_MOST_NAMES)
    (C_are_names : Cal P w K mg base 2 a_are_names ["value"] (SpD K 1 fAreN)) (C_is_within_limits : Cal P w K mg base 15 a_is_within_limits ["names", "saying"] (SpD K 2 (fWithinS ρ))) (C_sayings_in : Cal P w K mg base 7 a_sayings_in ["saying"] (SpD K 1 (fForms ρ 7)))
    (Z_InvalidSaying : Rz P w K mg base 7 "InvalidSaying" a_InvalidSaying ["given", "code"] (fGiven "InvalidSaying")) :
    FnOk P w K mg base (L2N.CX P w) 16 a_i fd ["self", "names", "saying"] (SpNE K 2 qnN (fQuestS ρ a_InvalidSaying)) := by
  obtain ⟨fd_are_names, G_are_names, kp_are_names, b_are_names⟩ := C_are_names.ex
  obtain ⟨fd_is_within_limits, G_is_within_limits, kp_is_within_limits, b_is_within_limits⟩ := C_is_within_limits.ex
  obtain ⟨fd_sayings_in, G_sayings_in, kp_sayings_in, b_sayings_in⟩ := C_sayings_in.ex
  obtain ⟨Q_InvalidSaying, XR_InvalidSaying⟩ := Z_InvalidSaying
  refine okN F sc_Question___init__ (fun vs H Q E h => ?_) (fun cdv A outer s H vs Q E hr h => ?_)
  · obtain ⟨_, _, a, _, _, us, _, _, _, rfl, hl, _⟩ := h
    show us.length + 1 = 3
    rw [hl]
  refine ⟨_, (pss_cons (ps_if (pt_not (pt_val (pe_call G_are_names (hr.mono (by omega)) (by rfl) T.m_are_names kp_are_names b_are_names .nil pass0 (pa_cons (pv 1) pa_nil))))
 (pss_one ps_never)
 pss_nil)
 (pss_cons (ps_if (pt_not (pt_val (pe_call G_is_within_limits (hr.mono (by omega)) (by rfl) T.m_is_within_limits kp_is_within_limits b_is_within_limits .nil pass0 (pa_cons (pv 1) (pa_cons (pv 2) pa_nil)))))
 (pss_one (L2N.ps_raise rfl (L2N.takes_of (E := E) rfl rfl rfl rfl) (pmk_C Q_InvalidSaying XR_InvalidSaying (hr.mono (by omega)) (by rfl) (pa_cons (pv 2) pa_nil))))
 pss_nil)
 (pss_cons (ps_fld (pv 0) (pe_callTy call_tuple_of (by rfl) T.n_tuple (by decide +kernel) (pa_cons (pv 1) pa_nil)) rfl)
 (pss_cons (ps_fld (pv 0) (pv 2) rfl)
 (pss_one (ps_fld (pv 0) (pe_callB call_len (by rfl) T.n_len PySem.boot_len (pa_cons (pe_call G_sayings_in (hr.mono (by omega)) (by rfl) T.m_sayings_in kp_sayings_in b_sayings_in .nil pass0 (pa_cons (pv 2) pa_nil)) pa_nil)) rfl)))))), ?_⟩
  refine run_initNE h fun B0 a C ds Pd PX B bb eE ePX hl cl no hF => ?_
  try dsimp only [cxOf]
  obtain ⟨v, rfl, wf, hc⟩ := hF
  have h34 : ρ 3 ≠ ρ 4 := fun e => absurd (R.inj 3 4 (by decide) (by decide) e) (by decide)
  refine ri_seq (ri_plain (rn_if (et_not (et_B (ev_call (ea_cons (ev_var rfl (ea_nil ⟨rfl, toDs ρ abS, rfl, fun x hx => ?_, Nat.le_of_ble_eq_true rfl, true, ?_, .inl (Nat.le_of_ble_eq_true rfl), true, rfl, iF rfl ?_⟩))))))))
  · simp only [abS, aS, bS, toDs, toD, List.mem_cons, List.not_mem_nil, or_false] at hx
    rcases hx with rfl | rfl
    · exact ⟨⟨_, rfl⟩, fun z e => by cases e; exact name_short (R.nm 3)⟩
    · exact ⟨⟨_, rfl⟩, fun z e => by cases e; exact name_short (R.nm 4)⟩
  · have h := NmB.txt (xs := toDs ρ abS) [ρ 3, ρ 4] rfl fun z hz => by
      simp only [List.mem_cons, List.not_mem_nil, or_false] at hz
      rcases hz with rfl | rfl
      · exact R.nm 3
      · exact R.nm 4
    rwa [once_two h34] at h
  refine rn_next ?_
  rcases hc with ⟨hs, hd4, px⟩ | ⟨hg, p⟩
  · refine ri_seq (ri_plain (rn_if (et_not (et_B (ev_call (ea_cons (ev_var rfl (ea_cons (ev_var rfl (ea_nil ⟨rfl, v, abS, rfl, wf, ab_sco, .inl ⟨hs, _, rfl, iT rfl ?_⟩⟩))))))))))
    refine rn_raise (fun cls d σ H => by rw [eE]) (ea_cons (ev_var rfl (ea_nil ⟨rfl, by decide, toD ρ v, rfl, sy_Pl v 4 wf.wf hd4, ?_⟩)))
    rw [ePX]
    exact px
  · obtain ⟨hs, fs, us, hf, f12, hu, u1⟩ := goodS_of hg
    refine ri_seq (ri_plain (rn_if (et_not (et_B (ev_call (ea_cons (ev_var rfl (ea_cons (ev_var rfl (ea_nil ⟨rfl, v, abS, rfl, wf, ab_sco, .inr ⟨hg, _, rfl, iF rfl ?_⟩⟩))))))))))
    refine rn_next ?_
    refine ri_seq (ri_store rfl cl (no _ (by decide)) (by decide) (by decide) (ev_tupleOf (ea_cons (ev_var rfl (ea_nil ⟨_, rfl, ?_⟩)))))
    refine ri_seq (ri_store rfl cl (no _ (by decide)) (by decide) (by decide) (ev_var rfl ?_))
    refine ri_store rfl cl (no _ (by decide)) (by decide) (by decide) (ev_len (ea_cons (ev_call (ea_cons (ev_var rfl (ea_nil ⟨rfl, v, fs, rfl, wf, hf, by omega, ea_nil ⟨_, fs.length, rfl, ?_, rfl, p _⟩⟩))))))
    show some (toDs ρ fs).length = some fs.length
    rw [toDs_len]
end
end KL

set_option maxHeartbeats 4000000
namespace KL
open PySem PySem.Spec PyProof.Rows L2 RZ XE TL DL RD RE XA XB XC XD XK
local macro_rules | `(tactic| walk_at "dl1") => `(tactic| first
  | with_reducible refine rn_seq ?_
  | with_reducible refine rn_if ?_
  | with_reducible refine rn_ret ?_
  | with_reducible refine rn_set ?_
  | with_reducible refine rn_drop ?_
  | with_reducible refine rn_next ?_
  | with_reducible refine et_test ?_
  | with_reducible refine et_B ?_
  | with_reducible refine et_not ?_
  | with_reducible refine et_and ?_
  | with_reducible refine et_or ?_
  | ((with_reducible refine' ev_var ?k1 ?_); (case k1 => exact rfl))
  | with_reducible refine ev_int ?_
  | with_reducible refine ev_str ?_
  | with_reducible refine ev_bl ?_
  | with_reducible refine ev_non ?_
  | with_reducible refine ev_ty ?_
  | with_reducible refine ea_nil ?_
  | with_reducible refine ea_cons ?_
  | with_reducible refine ev_andV ?_
  | with_reducible refine ev_orV ?_
  | with_reducible refine ev_notV ?_
  | with_reducible refine ev_chain ?_
  | with_reducible refine ev_len ?_
  | with_reducible refine ev_all ?_
  | with_reducible refine ev_join ?_
  | with_reducible refine ev_I0 ?_
  | with_reducible refine ev_B0 ?_
  | with_reducible refine ev_I ?_
  | with_reducible refine ev_eq ?_
  | with_reducible refine ev_ne ?_
  | with_reducible refine ev_isN ?_
  | with_reducible refine ev_notN ?_
  | with_reducible refine ev_tup ?_
  | with_reducible refine ev_lst ?_
  | with_reducible refine ev_ix ?_
  | with_reducible refine ev_cat ?_
  | with_reducible refine ev_rep ?_
  | with_reducible refine ev_mulS ?_
  | with_reducible refine ev_add_str ?_
  | with_reducible refine ev_slS ?_
  | with_reducible refine ev_slL ?_
  | with_reducible refine eo_none ?_
  | with_reducible refine eo_some ?_
  | with_reducible refine ev_in_sign ?_
  | with_reducible refine ev_is ?_
  | refine ev_is2 (m := .list) (m' := .tuple) ?_
  | with_reducible refine ev_call ?_)
local macro_rules | `(tactic| walk_at "dl2") => `(tactic| first
  | (refine ⟨_, rfl, ?_⟩; done)
  | (with_reducible refine ⟨_, rfl, ?_⟩)
  | (with_reducible refine ⟨_, _, rfl, rfl, ?_⟩)
  | (refine ⟨_, .str, rfl, rfl, ?_⟩)
  | (refine ⟨_, .int, rfl, rfl, ?_⟩)
  | (refine ⟨_, .bool, rfl, rfl, ?_⟩)
  | (refine ⟨_, .list, rfl, rfl, ?_⟩)
  | (refine ⟨_, .tuple, rfl, rfl, ?_⟩)
  | (refine ⟨rfl, _, rfl, ?_⟩)
  | (refine iT rfl ?_)
  | (refine iF rfl ?_))
local macro_rules | `(tactic| walk_at "dl4") => `(tactic| first
  | with_reducible refine ev_tupleOf ?_
  | with_reducible refine rn_par ?_
  | with_reducible refine ev_ifE ?_
  | with_reducible refine ev_strA ?_
  | with_reducible refine ev_neg ?_
  | with_reducible refine ev_fmt ?_
  | with_reducible refine ev_split ?_
  | with_reducible refine ev_eqP ?_
  | with_reducible refine ev_neP ?_
  | with_reducible refine ev_kin ?_
  | with_reducible refine ev_kix ?_
  | with_reducible refine ea_star ?_
  | with_reducible refine ev_inS ?_
  | with_reducible refine rw_next ?_
  | (with_reducible refine rw_seq ?_)
  | with_reducible refine rw_ret ?_
  | with_reducible refine ev_fld ?_
  | with_reducible refine ev_slT ?_
  | with_reducible refine ev_neg ?_
  | with_reducible refine ev_int1 ?_
  | with_reducible refine ev_dget ?_
  | with_reducible refine ev_catT ?_
  | with_reducible refine rn_par3 ?_
  | with_reducible refine ev_ref ?_)
local macro_rules | `(tactic| walk_at "dn") => `(tactic| repeat first | walk_at "dl1" | walk_at "dl4" | walk_at "dl2")
local macro_rules | `(tactic| walk_at "dl3") => `(tactic| first
  | (refine ⟨rfl, fun _ e => (by cases e <;> first | omega | decide), ?_⟩)
  | (refine ⟨small_n (Nat.le_of_ble_eq_true rfl), ?_⟩)
  | (refine ⟨_, _, _, rfl, rfl, ?_⟩)
  | (refine ⟨rfl, _, _, _, rfl, rfl, ?_⟩)
  | (refine ⟨rfl, _, _, rfl, rfl, (by decide), (by decide), ?_⟩)
  | (refine ⟨(show CPow _ _ from ⟨by decide, by decide, by decide⟩), ?_⟩)
  | (refine ⟨(show CMul _ _ from .inl ⟨by decide, by decide⟩), ?_⟩)
  | with_reducible refine et_yes ?_)
local macro_rules | `(tactic| walk_at "pl") => `(tactic| first
  | exact Pl.bl _ | exact Pl.int _ | exact Pl.str _ | exact Pl.non
  | refine Pl.ofL ?_ (Nat.le_of_ble_eq_true rfl) | refine Pl.ofT ?_ (Nat.le_of_ble_eq_true rfl)
  | exact PlL.nil | refine PlL.cons ?_ ?_)
local macro_rules | `(tactic| walk_at "dm") => `(tactic| repeat first | walk_at "dl1" | walk_at "dl4" | walk_at "dl2" | walk_at "dl3")
local macro_rules | `(tactic| walk_at "dl") => `(tactic| repeat first | walk_at "dl1" | walk_at "dl2" | walk_at "dl3")
section
variable {P : Program} {w : World} {K : PySem.W.Frag} {mg : Str → Option Value} {base : Heap} {a_copied : Addr} {a_as_items : Addr} {a_is_name : Addr} {a_is_number : Addr} {a_number_in : Addr} {a_is_test : Addr} {a_has_shape : Addr} {a_is_saying : Addr} {a_is_item : Addr} {a_sayings_in : Addr} {a_table_uses : Addr} {a_is_within_limits : Addr} {a_words_of : Addr} {a_word_at : Addr} {a_read_saying : Addr} {a_read_item : Addr} {a_read_test : Addr} {a_are_names : Addr} {a__law_box : Addr} {a__law_pull : Addr} {a__law_of : Addr} {a__law_words : Addr} {a__law_same : Addr} {a__law_field : Addr} {a__law_got : Addr} {a_OnceError : Addr} {a_InvalidNames : Addr} {a_InvalidSaying : Addr} {a_InvalidText : Addr} {a_Missing : Addr} {a_NothingLeft : Addr} {a_Question : Addr} {a_SHAPES : Addr} {a_TESTS : Addr} {t_DEEPEST_COPY : Tok} {t_LETTERS : Tok} {t_DIGITS : Tok} {t_LONGEST_NAME : Tok} {t_LONGEST_NUMBER : Tok} {t_MOST_FORMS : Tok} {t_MOST_DEEP : Tok} {t_MOST_SCOPE : Tok} {t_MOST_BOUND : Tok} {t_MOST_NAMES : Tok} 

/-! ### what the law needs -/
theorem eg_five {i j l m n : Nat} {vs : List Nat} {B : Bx} {Γ : Gam} {d e f u z : D} {P : Gam → Prop} (hi : i ∈ vs) (hj : j ∈ vs) (hl : l ∈ vs) (hm : m ∈ vs) (hn : n ∈ vs) (p : P (((((Γ.set i (some d)).set j (some e)).set l (some f)).set m (some u)).set n (some z))) :
    EvG K B (gTup K 5 (gCons (gName i) (gCons (gName j) (gCons (gName l) (gCons (gName m) (gCons (gName n) gNil)))))) vs Γ (.tup [d, e, f, u, z]) P := fun M σ H v Q g x dn q => by
  cases dn with
  | tup h1 h2 =>
    cases h2 with
    | cons d1 h2 =>
      cases h2 with
      | cons d2 h2 =>
        cases h2 with
        | cons d3 h2 =>
          cases h2 with
          | cons d4 h2 =>
            cases h2 with
            | cons d5 h2 =>
              cases h2
              refine ⟨_, _, rfl, SqT.sub hid_sub h1, rfl, _, _, rfl, _, _, rfl, _, _, rfl, _, _, rfl, _, _, rfl, rfl, ?_⟩
              refine q _ _ p (((((x.set d1).set d2).set d3).set d4).set d5) (by simp only [List.length_set]) fun k hk => ?_
              rw [List.getElem?_set_ne (fun z => hk (by rw [← z]; exact hn)), List.getElem?_set_ne (fun z => hk (by rw [← z]; exact hm)), List.getElem?_set_ne (fun z => hk (by rw [← z]; exact hl)), List.getElem?_set_ne (fun z => hk (by rw [← z]; exact hj)), List.getElem?_set_ne (fun z => hk (by rw [← z]; exact hi))]
theorem goodN_name {z : Str} (h : goodN z) : isNameS z = true := by
  obtain ⟨h1, h2, h3⟩ := h
  unfold isNameS
  rw [decide_eq_true h1, decide_eq_true h2]
  exact List.all_eq_true.mpr fun c hc => decide_eq_true (h3 c hc)
theorem of_mem {xs : List D} {P : D → Prop} (h : ∀ e, e ∈ xs → P e) : ∀ k : Nat, k < xs.length → ∃ e, itemD (.lst xs) (.int (k : Int)) = some e ∧ P e := fun k hk => ⟨xs[k], atI_nat (List.getElem?_eq_getElem hk), h _ (List.getElem_mem hk)⟩
theorem of_memN {xs : List D} {n : Nat} {P : D → Prop} (hn : n = xs.length) (h : ∀ e, e ∈ xs → P e) : ∀ k : Nat, k < n → ∃ e, itemD (.lst xs) (.int (k : Int)) = some e ∧ P e := fun k hk => of_mem h k (by omega)
theorem got_at {cs : List Value} {P : D → Prop} {C : Addr} {d : D} {code f : Str} (HN : Hnd K cs C) (ef : fieldOf code = .one f) (ff : (f == ("code" : Str)) = false) (p : P (.tup [.str code, d])) : gotX K cs P C [f, "code"] [d, .str code] := by
  refine ⟨HN, code, ?_, ?_⟩
  · show List.lookup ("code" : Str) [(f, d), (("code" : Str), D.str code)] = _
    rw [List.lookup_cons, show (("code" : Str) == f) = false from by rw [beq_eq_false_iff_ne] at ff ⊢; exact Ne.symm ff]
    rfl
  · rw [ef]
    refine ⟨d, ?_, p⟩
    show List.lookup f [(f, d), (("code" : Str), D.str code)] = _
    rw [List.lookup_cons_self]
/-- the names of the law, by number -/
def rho (w0 : Str) (ws : List Str) (i : Nat) : Str := ws.getD i w0
theorem rho_ok {w0 : Str} {ws : List Str} (h0 : goodN w0) (hg : ∀ z, z ∈ ws → goodN z) (hl : ws.length = 10) (nd : ws.Nodup) : Rho (rho w0 ws) where
  nm := fun i => by
    unfold rho
    rw [List.getD_eq_getElem?_getD]
    cases e : ws[i]? with
    | none => exact goodN_name h0
    | some z => exact goodN_name (hg z (List.mem_of_getElem? e))
  inj := fun i j hi hj e => by
    unfold rho at e
    rw [List.getD_eq_getElem?_getD, List.getD_eq_getElem?_getD, List.getElem?_eq_getElem (by omega), List.getElem?_eq_getElem (by omega)] at e
    exact (List.getElem_inj nd).mp e
/-- something odd -/
theorem odd_of {ρ : Nat → Str} {d : D} (h : d ∈ [D.non, .bl true, .int 3, .str "", .str "A", .tup [.int 1], .str (ρ 5)]) : ∃ o, o ∈ oddI ∧ d = toD ρ o.1 := by
  simp only [List.mem_cons, List.not_mem_nil, or_false] at h
  rcases h with rfl | rfl | rfl | rfl | rfl | rfl | rfl
  · exact ⟨(.at_ .non, false), by simp [oddI], rfl⟩
  · exact ⟨(.at_ (.bl true), false), by simp [oddI], rfl⟩
  · exact ⟨(i_ 3, false), by simp [oddI], rfl⟩
  · exact ⟨(tx "", false), by simp [oddI], rfl⟩
  · exact ⟨(tx "A", false), by simp [oddI], rfl⟩
  · exact ⟨(.tp [i_ 1], false), by simp [oddI], rfl⟩
  · exact ⟨(xS, true), by simp [oddI], rfl⟩
theorem odd_ne {ρ : Nat → Str} (R : Rho ρ) {o : Sy × Bool} (h : o ∈ oddI) : PyData.eqv (pyD (toD ρ o.1)) (pyD (.str (ρ 5))) = o.2 := by
  have n5 := R.nm 5
  simp only [oddI, List.mem_cons, List.not_mem_nil, or_false] at h
  rcases h with rfl | rfl | rfl | rfl | rfl | rfl | rfl
  · rfl
  · rfl
  · rfl
  · show ((("" : Str) == ρ 5) : Bool) = false
    rw [str_beq]
    refine decide_eq_false fun e => ?_
    rw [e] at n5
    exact absurd n5 (by decide)
  · show ((("A" : Str) == ρ 5) : Bool) = false
    rw [str_beq]
    refine decide_eq_false fun e => ?_
    rw [e] at n5
    exact absurd n5 (by decide)
  · rfl
  · show ((ρ 5 : Str) == ρ 5) = true
    rw [str_beq]
    exact decide_eq_true rfl
theorem odd_wf {o : Sy × Bool} (h : o ∈ oddI) : Wf o.1 := by
  simp only [oddI, List.mem_cons, List.not_mem_nil, or_false] at h
  rcases h with rfl | rfl | rfl | rfl | rfl | rfl | rfl <;> exact ⟨by decide +kernel, by decide +kernel⟩
theorem bad_of {o : Sy × Bool} (h : o ∈ oddI) {v u : Sy} (hv : v ∈ badS o.1 o.2) (hu : u ∈ wrapS v) : Wf u ∧ depS u ≤ 4 ∧ sayS 6 u abS = some false := by
  have h1 := List.all_eq_true.mp (List.all_eq_true.mp (List.all_eq_true.mp bad_all o h) v hv) u hu
  have h2 := List.all_eq_true.mp (List.all_eq_true.mp (List.all_eq_true.mp bad_wf o h) v hv) u hu
  rw [Bool.and_eq_true, decide_eq_true_eq] at h2
  exact ⟨⟨h2.1, by omega⟩, h2.2, of_decide_eq_true h1⟩
theorem good_of {v u : Sy} (hv : v ∈ goodL) (hu : u ∈ wrapS v) : Wf u ∧ depS u ≤ 4 ∧ goodS u abS = true := by
  have h1 := List.all_eq_true.mp (List.all_eq_true.mp good_all v hv) u hu
  have h2 := List.all_eq_true.mp (List.all_eq_true.mp good_wf v hv) u hu
  rw [Bool.and_eq_true, decide_eq_true_eq] at h2
  exact ⟨⟨h2.1, by omega⟩, h2.2, h1⟩
end
end KL

set_option maxHeartbeats 4000000
namespace KL
open PySem PySem.Spec PyProof.Rows L2 RZ XE TL DL RD RE XA XB XC XD XK
local macro_rules | `(tactic| walk_at "dl1") => `(tactic| first
  | with_reducible refine rn_seq ?_
  | with_reducible refine rn_if ?_
  | with_reducible refine rn_ret ?_
  | with_reducible refine rn_set ?_
  | with_reducible refine rn_drop ?_
  | with_reducible refine rn_next ?_
  | with_reducible refine et_test ?_
  | with_reducible refine et_B ?_
  | with_reducible refine et_not ?_
  | with_reducible refine et_and ?_
  | with_reducible refine et_or ?_
  | ((with_reducible refine' ev_var ?k1 ?_); (case k1 => exact rfl))
  | with_reducible refine ev_int ?_
  | with_reducible refine ev_str ?_
  | with_reducible refine ev_bl ?_
  | with_reducible refine ev_non ?_
  | with_reducible refine ev_ty ?_
  | with_reducible refine ea_nil ?_
  | with_reducible refine ea_cons ?_
  | with_reducible refine ev_andV ?_
  | with_reducible refine ev_orV ?_
  | with_reducible refine ev_notV ?_
  | with_reducible refine ev_chain ?_
  | with_reducible refine ev_len ?_
  | with_reducible refine ev_all ?_
  | with_reducible refine ev_join ?_
  | with_reducible refine ev_I0 ?_
  | with_reducible refine ev_B0 ?_
  | with_reducible refine ev_I ?_
  | with_reducible refine ev_eq ?_
  | with_reducible refine ev_ne ?_
  | with_reducible refine ev_isN ?_
  | with_reducible refine ev_notN ?_
  | with_reducible refine ev_tup ?_
  | with_reducible refine ev_lst ?_
  | with_reducible refine ev_ix ?_
  | with_reducible refine ev_cat ?_
  | with_reducible refine ev_rep ?_
  | with_reducible refine ev_mulS ?_
  | with_reducible refine ev_add_str ?_
  | with_reducible refine ev_slS ?_
  | with_reducible refine ev_slL ?_
  | with_reducible refine eo_none ?_
  | with_reducible refine eo_some ?_
  | with_reducible refine ev_in_sign ?_
  | with_reducible refine ev_is ?_
  | refine ev_is2 (m := .list) (m' := .tuple) ?_
  | with_reducible refine ev_call ?_)
local macro_rules | `(tactic| walk_at "dl2") => `(tactic| first
  | (refine ⟨_, rfl, ?_⟩; done)
  | (with_reducible refine ⟨_, rfl, ?_⟩)
  | (with_reducible refine ⟨_, _, rfl, rfl, ?_⟩)
  | (refine ⟨_, .str, rfl, rfl, ?_⟩)
  | (refine ⟨_, .int, rfl, rfl, ?_⟩)
  | (refine ⟨_, .bool, rfl, rfl, ?_⟩)
  | (refine ⟨_, .list, rfl, rfl, ?_⟩)
  | (refine ⟨_, .tuple, rfl, rfl, ?_⟩)
  | (refine ⟨rfl, _, rfl, ?_⟩)
  | (refine iT rfl ?_)
  | (refine iF rfl ?_))
local macro_rules | `(tactic| walk_at "dl4") => `(tactic| first
  | with_reducible refine ev_tupleOf ?_
  | with_reducible refine rn_par ?_
  | with_reducible refine ev_ifE ?_
  | with_reducible refine ev_strA ?_
  | with_reducible refine ev_neg ?_
  | with_reducible refine ev_fmt ?_
  | with_reducible refine ev_split ?_
  | with_reducible refine ev_eqP ?_
  | with_reducible refine ev_neP ?_
  | with_reducible refine ev_kin ?_
  | with_reducible refine ev_kix ?_
  | with_reducible refine ea_star ?_
  | with_reducible refine ev_inS ?_
  | with_reducible refine rw_next ?_
  | (with_reducible refine rw_seq ?_)
  | with_reducible refine rw_ret ?_
  | with_reducible refine ev_fld ?_
  | with_reducible refine ev_slT ?_
  | with_reducible refine ev_neg ?_
  | with_reducible refine ev_int1 ?_
  | with_reducible refine ev_dget ?_
  | with_reducible refine ev_catT ?_
  | with_reducible refine rn_par3 ?_
  | with_reducible refine ev_ref ?_)
local macro_rules | `(tactic| walk_at "dn") => `(tactic| repeat first | walk_at "dl1" | walk_at "dl4" | walk_at "dl2")
local macro_rules | `(tactic| walk_at "dl3") => `(tactic| first
  | (refine ⟨rfl, fun _ e => (by cases e <;> first | omega | decide), ?_⟩)
  | (refine ⟨small_n (Nat.le_of_ble_eq_true rfl), ?_⟩)
  | (refine ⟨_, _, _, rfl, rfl, ?_⟩)
  | (refine ⟨rfl, _, _, _, rfl, rfl, ?_⟩)
  | (refine ⟨rfl, _, _, rfl, rfl, (by decide), (by decide), ?_⟩)
  | (refine ⟨(show CPow _ _ from ⟨by decide, by decide, by decide⟩), ?_⟩)
  | (refine ⟨(show CMul _ _ from .inl ⟨by decide, by decide⟩), ?_⟩)
  | with_reducible refine et_yes ?_)
local macro_rules | `(tactic| walk_at "pl") => `(tactic| first
  | exact Pl.bl _ | exact Pl.int _ | exact Pl.str _ | exact Pl.non
  | refine Pl.ofL ?_ (Nat.le_of_ble_eq_true rfl) | refine Pl.ofT ?_ (Nat.le_of_ble_eq_true rfl)
  | exact PlL.nil | refine PlL.cons ?_ ?_)
local macro_rules | `(tactic| walk_at "dm") => `(tactic| repeat first | walk_at "dl1" | walk_at "dl4" | walk_at "dl2" | walk_at "dl3")
local macro_rules | `(tactic| walk_at "dl") => `(tactic| repeat first | walk_at "dl1" | walk_at "dl2" | walk_at "dl3")
section
variable {P : Program} {w : World} {K : PySem.W.Frag} {mg : Str → Option Value} {base : Heap} {a_copied : Addr} {a_as_items : Addr} {a_is_name : Addr} {a_is_number : Addr} {a_number_in : Addr} {a_is_test : Addr} {a_has_shape : Addr} {a_is_saying : Addr} {a_is_item : Addr} {a_sayings_in : Addr} {a_table_uses : Addr} {a_is_within_limits : Addr} {a_words_of : Addr} {a_word_at : Addr} {a_read_saying : Addr} {a_read_item : Addr} {a_read_test : Addr} {a_are_names : Addr} {a__law_box : Addr} {a__law_pull : Addr} {a__law_of : Addr} {a__law_words : Addr} {a__law_same : Addr} {a__law_field : Addr} {a__law_got : Addr} {a_OnceError : Addr} {a_InvalidNames : Addr} {a_InvalidSaying : Addr} {a_InvalidText : Addr} {a_Missing : Addr} {a_NothingLeft : Addr} {a_Question : Addr} {a_SHAPES : Addr} {a_TESTS : Addr} {t_DEEPEST_COPY : Tok} {t_LETTERS : Tok} {t_DIGITS : Tok} {t_LONGEST_NAME : Tok} {t_LONGEST_NUMBER : Tok} {t_MOST_FORMS : Tok} {t_MOST_DEEP : Tok} {t_MOST_SCOPE : Tok} {t_MOST_BOUND : Tok} {t_MOST_NAMES : Tok} 

/-! ### the law -/
theorem ok_law {a_law aC aT : Addr} {aI : Addr} {fd fdg : FuncData} (F : Fun K "law" "law" s_law a_law fd) (hc : fd.code = .ref aC) (TB : LamX.TabB base mg aC aT) (T : Txt K mg a_copied a_as_items a_is_name a_is_number a_number_in a_is_test a_has_shape a_is_saying a_is_item a_sayings_in a_table_uses a_is_within_limits a_words_of a_word_at a_read_saying a_read_item a_read_test a_are_names a__law_box a__law_pull a__law_of a__law_words a__law_same a__law_field a__law_got a_OnceError a_InvalidNames a_InvalidSaying a_InvalidText a_Missing a_NothingLeft a_Question a_SHAPES a_TESTS t_DEEPEST_COPY t_LETTERS t_DIGITS t_LONGEST_NAME t_LONGEST_NUMBER t_MOST_FORMS t_MOST_DEEP t_MOST_SCOPE t_MOST_BOUND t_MOST_NAMES) (QQ : Qst K a_Question aI)
    {fdf : FuncData} (Z__law_field : FnZ P w K mg base CX0 1 a__law_field fdf ["_law_e"] (spField K)) (kp__law_field : PySem.W.keepIn K (.ref a__law_field) = true) (b__law_field : Binds K fdf ["_law_e"] []) (b__law_got : Binds K fdg ["_law_ask"] [])
    (F__law_got : Fun K "_law_got" "_law_got" s__law_got a__law_got fdg)
    (C__law_box : Cal P w K mg base 1 a__law_box ["_law_script"] (spBox K)) (C__law_pull : Cal P w K mg base 1 a__law_pull ["_law_box_here", "_law_many"] (SpD K 2 fPull)) (C__law_of : Cal P w K mg base 2 a__law_of ["_law_box_here", "_law_some"] (SpD K 2 fOf))
    (C__law_words : Cal P w K mg base 3 a__law_words ["_law_box_here", "_law_many"] (SpD K 2 fWords))
    (C__law_same : Cal P w K mg base 7 a__law_same ["_law_found", "_law_due"] (SpD K 2 (fSame 7))) (HN : Hnd K [.ref a_OnceError, .ref a_Missing, .ref a_NothingLeft] a_InvalidSaying)
    {fdI : FuncData} (G_Question___init__ : FnOk P w K mg base (L2N.CX P w) 16 aI fdI ["self", "names", "saying"] (SpNE K 2 qnN fun B ds P PX => ∃ ρ : Nat → Str, Rho ρ ∧ fQuestS ρ a_InvalidSaying B ds P PX)) (bD_Question : Binds K fdI ["self", "names", "saying"] []) :
    FnOk P w K mg base CX0 40 a_law fd ["_law_script"] (spLawT K aT) := by
  obtain ⟨fd__law_box, G__law_box, kp__law_box, b__law_box⟩ := C__law_box.ex
  obtain ⟨fd__law_pull, G__law_pull, kp__law_pull, b__law_pull⟩ := C__law_pull.ex
  obtain ⟨fd__law_of, G__law_of, kp__law_of, b__law_of⟩ := C__law_of.ex
  obtain ⟨fd__law_words, G__law_words, kp__law_words, b__law_words⟩ := C__law_words.ex
  obtain ⟨fd__law_same, G__law_same, kp__law_same, b__law_same⟩ := C__law_same.ex
  have vD_Question : Vals ([] : List V) [] := .nil
  refine okT F hc sc_law (fun vs H Q E h => ?_) (fun A outer s H vs Q E hr h => ?_)
  · obtain ⟨a, ns, rfl, _⟩ := h
    rfl
  obtain ⟨a, ns, rfl, hs, hn, ht, q⟩ := h
  have kp__law_got := F__law_got.kp
  obtain ⟨oc_g, od_g, kV_g, doc_g, pm_g, an_g, cdg, ct_g, osl_g, rfl, lk__law_got, cg__law_got⟩ := F__law_got.ex
  have G__law_got : XB.GivesN (cxOf CX0 P w K mg base N_law "law" (defScope s_law) a_law (.ref aC) A outer s H E).nox N__law_got "_law_got" (defScope s__law_got) a__law_got cdg (defBody s__law_got) "_law_ask" (XB.lamQ (cxOf CX0 P w K mg base N_law "law" (defScope s_law) a_law (.ref aC) A outer s H E).nox) (TTgot K [.ref a_OnceError, .ref a_Missing, .ref a_NothingLeft] (spField K)) :=
    got_gives (X := (cxOf CX0 P w K mg base N_law "law" (defScope s_law) a_law (.ref aC) A outer s H E).nox) (Ng := N__law_got) (x := "_law_got") (a := "_law_ask") (n := "_law_e") (y := "_law_field") (x1 := "OnceError") (x2 := "Missing") (x3 := "NothingLeft") (q := XB.lamQ (cxOf CX0 P w K mg base N_law "law" (defScope s_law) a_law (.ref aC) A outer s H E).nox) (pn := "_law_e") (g := a__law_got) (sg := defScope s__law_got) (cdg := cdg) rfl rfl rfl rfl T.m_OnceError T.m_Missing T.m_NothingLeft T.m__law_field rfl rfl rfl rfl rfl rfl sc__law_got.nd rfl rfl (fun _ => rfl) kp__law_field Z__law_field (by omega) b__law_field
  refine ⟨_, (pss_cons (ps_set (i := 1) sc_law.nd rfl (Or.inl rfl) (pe_call G__law_box (hr.mono (by omega)) (by rfl) T.m__law_box kp__law_box b__law_box .nil pass0 (pa_cons (pv 0) pa_nil)))
 (pss_cons (ps_for PassesOwn.never rfl (pi_range1 (by rfl) T.n_range (pa_cons pe_int pa_nil)) (pg_name (i := 2) sc_law.nd rfl (Or.inl rfl))
 (pss_cons (ps_set (i := 3) sc_law.nd rfl (Or.inl rfl) (pe_call G__law_words (hr.mono (by omega)) (by rfl) T.m__law_words kp__law_words b__law_words .nil pass0 (pa_cons (pv 1) (pa_cons pe_int pa_nil))))
 (pss_cons (ps_asg (pe_tup (pa_cons (pe_ix (ix_seqK K) (pv 3) pe_int (fun _ _ => rfl)) (pa_cons (pe_ix (ix_seqK K) (pv 3) pe_int (fun _ _ => rfl)) (pa_cons (pe_ix (ix_seqK K) (pv 3) pe_int (fun _ _ => rfl)) (pa_cons (pe_ix (ix_seqK K) (pv 3) pe_int (fun _ _ => rfl)) (pa_cons (pe_ix (ix_seqK K) (pv 3) pe_int (fun _ _ => rfl)) pa_nil)))))) (pg_tup rfl (pgs_cons (pg_name (i := 4) sc_law.nd rfl (Or.inr rfl)) (pgs_cons (pg_name (i := 5) sc_law.nd rfl (Or.inr rfl)) (pgs_cons (pg_name (i := 6) sc_law.nd rfl (Or.inl rfl)) (pgs_cons (pg_name (i := 7) sc_law.nd rfl (Or.inl rfl)) (pgs_cons (pg_name (i := 8) sc_law.nd rfl (Or.inl rfl)) pgs_nil)))))))
 (pss_cons (ps_set (i := 9) sc_law.nd rfl (Or.inl rfl) (pe_tup (pa_cons pe_str (pa_cons (pv 4) (pa_cons (pv 5) pa_nil)))))
 (pss_cons (ps_set (i := 10) sc_law.nd rfl (Or.inl rfl) (pe_tup (pa_cons pe_str (pa_cons (pv 8) (pa_cons (pv 6) (pa_cons (pv 7) pa_nil))))))
 (pss_cons (ps_set (i := 11) sc_law.nd rfl (Or.inl rfl) (pe_call G__law_of (hr.mono (by omega)) (by rfl) T.m__law_of kp__law_of b__law_of .nil pass0 (pa_cons (pv 1) (pa_cons (pe_lst (pa_cons pe_non (pa_cons pe_bl (pa_cons pe_int (pa_cons pe_str (pa_cons pe_str (pa_cons (pe_tup (pa_cons pe_int pa_nil)) (pa_cons (pv 6) pa_nil)))))))) pa_nil))))
 (pss_cons (ps_set (i := 12) sc_law.nd rfl (Or.inl rfl) (pe_lst (pa_cons (pe_tup (pa_cons pe_str (pa_cons (pv 8) pa_nil))) (pa_cons (pe_tup (pa_cons pe_str (pa_cons pe_str (pa_cons (pv 4) pa_nil)))) (pa_cons (pe_tup (pa_cons pe_str (pa_cons (pv 8) (pa_cons (pv 11) pa_nil)))) (pa_cons (pe_tup (pa_cons pe_str (pa_cons (pv 8) (pa_cons (pv 4) pa_nil)))) (pa_cons (pe_tup (pa_cons pe_str (pa_cons (pv 8) (pa_cons (pv 4) (pa_cons (pv 11) pa_nil))))) (pa_cons (pe_tup (pa_cons pe_str (pa_cons (pv 4) pa_nil))) (pa_cons (pe_tup (pa_cons pe_str (pa_cons (pv 11) (pa_cons (pv 4) pa_nil)))) (pa_cons (pe_tup (pa_cons pe_str (pa_cons (pv 4) (pa_cons (pv 5) (pa_cons (pv 4) pa_nil))))) (pa_cons (pe_tup (pa_cons pe_str pa_nil)) (pa_cons (pe_tup (pa_cons pe_str (pa_cons (pv 9) (pa_cons (pv 9) pa_nil)))) (pa_cons (pe_tup (pa_cons pe_str (pa_cons (pv 9) pa_nil))) (pa_cons (pe_tup (pa_cons pe_str (pa_cons (pv 9) (pa_cons (pv 11) pa_nil)))) (pa_cons (pe_tup (pa_cons pe_str (pa_cons (pv 4) (pa_cons (pv 9) pa_nil)))) (pa_cons (pe_tup (pa_cons pe_str (pa_cons (pv 6) pa_nil))) (pa_cons (pe_tup (pa_cons pe_str (pa_cons (pv 6) (pa_cons (pe_tup (pa_cons pe_str (pa_cons (pv 6) (pa_cons (pv 7) pa_nil)))) pa_nil)))) (pa_cons (pe_ifExp (pt_cmpR (RD.op_neP hr.units) (pv 11) (pv 6) (nomark _)) (pe_tup (pa_cons pe_str (pa_cons (pv 11) (pa_cons (pe_tup (pa_cons pe_str (pa_cons (pv 11) (pa_cons (pv 4) pa_nil)))) pa_nil)))) (pe_tup (pa_cons pe_str pa_nil))) (pa_cons (pe_tup (pa_cons pe_str (pa_cons (pv 6) (pa_cons (pv 9) (pa_cons (pv 9) pa_nil))))) (pa_cons (pe_tup (pa_cons pe_str (pa_cons (pv 6) (pa_cons (pe_tup (pa_cons pe_str (pa_cons pe_int pa_nil))) (pa_cons (pv 9) pa_nil))))) (pa_cons (pe_tup (pa_cons pe_str (pa_cons (pv 6) (pa_cons (pe_tup (pa_cons pe_str pa_nil)) (pa_cons (pv 9) pa_nil))))) (pa_cons (pe_tup (pa_cons pe_str (pa_cons (pv 6) (pa_cons (pe_tup (pa_cons pe_str (pa_cons (pe_un un_neg pe_int) pa_nil))) (pa_cons (pv 9) pa_nil))))) (pa_cons (pe_tup (pa_cons pe_str (pa_cons (pv 6) (pa_cons (pe_tup (pa_cons pe_str (pa_cons pe_int (pa_cons pe_int pa_nil)))) (pa_cons (pv 9) pa_nil))))) (pa_cons (pe_tup (pa_cons pe_str (pa_cons (pv 6) (pa_cons (pe_tup (pa_cons pe_str (pa_cons pe_int (pa_cons pe_int pa_nil)))) (pa_cons (pv 9) pa_nil))))) (pa_cons (pe_tup (pa_cons pe_str (pa_cons (pv 6) (pa_cons (pe_tup (pa_cons pe_str (pa_cons pe_int (pa_cons pe_int pa_nil)))) (pa_cons (pv 9) pa_nil))))) (pa_cons (pe_tup (pa_cons pe_str (pa_cons (pv 6) (pa_cons (pe_tup (pa_cons pe_str (pa_cons pe_bl pa_nil))) (pa_cons (pv 9) pa_nil))))) (pa_cons (pe_tup (pa_cons pe_str (pa_cons (pv 6) (pa_cons (pe_lst (pa_cons pe_str (pa_cons pe_int pa_nil))) (pa_cons (pv 9) pa_nil))))) (pa_cons (pe_tup (pa_cons pe_str (pa_cons (pv 6) (pa_cons (pe_tup (pa_cons pe_str (pa_cons pe_int pa_nil))) (pa_cons (pv 9) pa_nil))))) (pa_cons (pe_tup (pa_cons pe_str (pa_cons (pv 4) (pa_cons (pe_tup (pa_cons pe_str (pa_cons pe_int pa_nil))) (pa_cons (pv 9) pa_nil))))) (pa_cons (pe_tup (pa_cons pe_str (pa_cons (pv 6) (pa_cons (pv 6) (pa_cons (pe_tup (pa_cons pe_str (pa_cons (pv 8) (pa_cons (pv 6) pa_nil)))) (pa_cons (pv 4) (pa_cons (pv 5) pa_nil))))))) (pa_cons (pe_tup (pa_cons pe_str (pa_cons (pv 6) (pa_cons (pv 7) (pa_cons (pv 10) (pa_cons (pv 4) (pa_cons (pv 6) pa_nil))))))) (pa_cons (pe_tup (pa_cons pe_str (pa_cons (pv 6) (pa_cons (pv 7) (pa_cons (pv 10) (pa_cons (pv 4) pa_nil)))))) (pa_cons (pe_tup (pa_cons pe_str (pa_cons (pv 4) (pa_cons (pv 7) (pa_cons (pe_tup (pa_cons pe_str (pa_cons (pv 8) (pa_cons (pv 4) (pa_cons (pv 7) pa_nil))))) (pa_cons (pv 4) (pa_cons (pv 5) pa_nil))))))) (pa_cons (pe_tup (pa_cons pe_str (pa_cons (pv 6) (pa_cons (pv 7) (pa_cons (pe_tup (pa_cons pe_str (pa_cons (pv 6) (pa_cons (pe_ix (ix_seqK K) (pv 3) pe_int (fun _ _ => rfl)) pa_nil)))) (pa_cons (pv 4) (pa_cons (pv 5) pa_nil))))))) (pa_cons (pe_tup (pa_cons pe_str (pa_cons pe_int (pa_cons (pv 6) (pa_cons (pv 7) (pa_cons (pv 10) (pa_cons (pv 4) (pa_cons (pv 5) pa_nil)))))))) (pa_cons (pe_tup (pa_cons pe_str (pa_cons (pe_un un_neg pe_int) (pa_cons (pv 6) (pa_cons (pv 7) (pa_cons (pv 10) (pa_cons (pv 4) (pa_cons (pv 5) pa_nil)))))))) (pa_cons (pe_tup (pa_cons pe_str (pa_cons pe_bl (pa_cons (pv 6) (pa_cons (pv 7) (pa_cons (pv 10) (pa_cons (pv 4) (pa_cons (pv 5) pa_nil)))))))) (pa_cons (pe_tup (pa_cons pe_str (pa_cons (pv 6) (pa_cons (pv 7) (pa_cons (pv 10) (pa_cons (pv 4) (pa_cons (pv 5) pa_nil))))))) (pa_cons (pe_tup (pa_cons pe_str (pa_cons pe_int (pa_cons (pv 6) (pa_cons (pv 7) (pa_cons (pv 10) (pa_cons (pv 4) (pa_cons (pv 5) pa_nil)))))))) (pa_cons (pe_lst (pa_cons pe_str (pa_cons (pv 4) (pa_cons (pv 5) pa_nil)))) (pa_cons (pe_tup pa_nil) (pa_cons (pe_tup (pa_cons pe_str (pa_cons (pv 4) pa_nil))) (pa_cons (pe_tup (pa_cons pe_str (pa_cons (pv 4) (pa_cons (pe_lst (pa_cons (pv 5) pa_nil)) pa_nil)))) (pa_cons (pv 11) pa_nil))))))))))))))))))))))))))))))))))))))))))))
 (pss_cons (ps_set (i := 13) sc_law.nd rfl (Or.inl rfl) (pe_call G__law_of (hr.mono (by omega)) (by rfl) T.m__law_of kp__law_of b__law_of .nil pass0 (pa_cons (pv 1) (pa_cons (pv 12) pa_nil))))
 (pss_cons (ps_set (i := 14) sc_law.nd rfl (Or.inl rfl) (pe_call G__law_of (hr.mono (by omega)) (by rfl) T.m__law_of kp__law_of b__law_of .nil pass0 (pa_cons (pv 1) (pa_cons (pe_lst (pa_cons pe_int (pa_cons pe_int (pa_cons pe_int (pa_cons pe_int (pa_cons pe_int pa_nil)))))) pa_nil))))
 (pss_cons (ps_set (i := 15) sc_law.nd rfl (Or.inr rfl) (pe_ix (ix_seqK K) (pe_lst (pa_cons (pv 13) (pa_cons (pe_tup (pa_cons pe_str (pa_cons (pv 13) pa_nil))) (pa_cons (pe_tup (pa_cons pe_str (pa_cons (pv 9) (pa_cons (pv 13) pa_nil)))) (pa_cons (pe_tup (pa_cons pe_str (pa_cons (pv 13) (pa_cons (pv 9) pa_nil)))) (pa_cons (pe_tup (pa_cons pe_str (pa_cons (pe_ix (ix_seqK K) (pv 3) pe_int (fun _ _ => rfl)) (pa_cons (pv 13) pa_nil)))) pa_nil)))))) (pv 14) (fun _ _ => rfl)))
 (pss_cons (ps_if (pt_not (pt_val (pe_call G__law_same (hr.mono (by omega)) (by rfl) T.m__law_same kp__law_same b__law_same .nil pass0 (pa_cons (XB.pe_lamcallN (k := 20) (Ng := N__law_got) (by rfl) T.m__law_got kp__law_got lk__law_got cg__law_got b__law_got sc__law_got rfl (.inl rfl) G__law_got TB rfl (by omega) (hr.mono (by omega)) (LamX.lamS_by (by show LamX.lamSB (defScope s_law) _ = true; decide +kernel)) rfl (fun _ _ _ _ _ => rfl)
 (fun A outer s H E f c' hr => (pe_make QQ.mkr G_Question___init__ (hr.mono (by omega)) (by rfl) T.m_Question bD_Question vD_Question (XK.passTk (XR.takesN_of (L2.takes_of (E := E) rfl rfl rfl rfl)) (fun _ _ _ _ z => z)) (pa_cons (pe_lst (pa_cons (pv 4) (pa_cons (pv 5) pa_nil))) (pa_cons (pv 15) pa_nil))))) (pa_cons (pe_tup (pa_cons pe_str (pa_cons (pv 15) pa_nil))) pa_nil)))))
 (pss_one (ps_ret pe_bl))
 pss_nil)
 (pss_cons (ps_set (i := 16) sc_law.nd rfl (Or.inl rfl) (pe_lst (pa_cons (pe_tup (pa_cons pe_str (pa_cons (pv 8) (pa_cons (pv 4) pa_nil)))) (pa_cons (pe_tup (pa_cons pe_str (pa_cons (pv 8) (pa_cons (pv 4) (pa_cons (pv 4) pa_nil))))) (pa_cons (pe_tup (pa_cons pe_str (pa_cons (pv 4) (pa_cons (pv 4) pa_nil)))) (pa_cons (pe_tup (pa_cons pe_str (pa_cons (pv 6) (pa_cons (pe_tup (pa_cons pe_str (pa_cons pe_int pa_nil))) (pa_cons (pv 9) pa_nil))))) (pa_cons (pe_tup (pa_cons pe_str (pa_cons (pv 6) (pa_cons (pe_tup (pa_cons pe_str (pa_cons pe_int (pa_cons pe_int pa_nil)))) (pa_cons (pe_tup (pa_cons pe_str (pa_cons (pv 6) (pa_cons (pv 4) pa_nil)))) pa_nil))))) (pa_cons (pe_tup (pa_cons pe_str (pa_cons (pv 6) (pa_cons (pv 7) (pa_cons (pv 10) (pa_cons (pv 4) (pa_cons (pv 4) pa_nil))))))) (pa_cons (pe_tup (pa_cons pe_str (pa_cons pe_int (pa_cons (pv 6) (pa_cons (pv 7) (pa_cons (pe_tup (pa_cons pe_str (pa_cons (pv 8) (pa_cons (pv 7) pa_nil)))) (pa_cons (pv 4) (pa_cons (pv 5) pa_nil)))))))) (pa_cons (pe_tup (pa_cons pe_str (pa_cons (pe_tup (pa_cons pe_str (pa_cons (pv 6) (pa_cons (pe_tup (pa_cons pe_str (pa_cons (pv 6) (pa_cons (pv 4) pa_nil)))) pa_nil)))) (pa_cons (pe_tup (pa_cons pe_str (pa_cons (pv 6) (pa_cons (pe_tup (pa_cons pe_str (pa_cons (pv 6) (pa_cons (pv 5) pa_nil)))) pa_nil)))) pa_nil)))) (pa_cons (pe_tup (pa_cons pe_str (pa_cons pe_int (pa_cons (pv 7) (pa_cons (pv 6) (pa_cons (pv 10) (pa_cons (pv 5) (pa_cons (pv 4) pa_nil)))))))) pa_nil)))))))))))
 (pss_cons (ps_set (i := 17) sc_law.nd rfl (Or.inl rfl) (pe_call G__law_of (hr.mono (by omega)) (by rfl) T.m__law_of kp__law_of b__law_of .nil pass0 (pa_cons (pv 1) (pa_cons (pv 16) pa_nil))))
 (pss_cons (ps_set (i := 17) sc_law.nd rfl (Or.inl rfl) (pe_ix (ix_seqK K) (pe_lst (pa_cons (pv 17) (pa_cons (pe_tup (pa_cons pe_str (pa_cons (pv 17) pa_nil))) (pa_cons (pe_tup (pa_cons pe_str (pa_cons (pv 9) (pa_cons (pv 17) pa_nil)))) (pa_cons (pe_tup (pa_cons pe_str (pa_cons (pv 17) (pa_cons (pv 9) pa_nil)))) (pa_cons (pe_tup (pa_cons pe_str (pa_cons (pe_ix (ix_seqK K) (pv 3) pe_int (fun _ _ => rfl)) (pa_cons (pv 17) pa_nil)))) pa_nil)))))) (pv 14) (fun _ _ => rfl)))
 (pss_one (ps_if (pt_not (pt_val (pe_call G__law_same (hr.mono (by omega)) (by rfl) T.m__law_same kp__law_same b__law_same .nil pass0 (pa_cons (pe_fld (pe_make QQ.mkr G_Question___init__ (hr.mono (by omega)) (by rfl) T.m_Question bD_Question vD_Question passLN (pa_cons (pe_lst (pa_cons (pv 4) (pa_cons (pv 5) pa_nil))) (pa_cons (pv 17) pa_nil))) rfl) (pa_cons (pv 17) pa_nil)))))
 (pss_one (ps_ret pe_bl))
 pss_nil))))))))))))))))
 (pss_one (ps_ret pe_bl)))), ?_⟩
  try dsimp only [cxOf]
  refine ⟨_, rfl, a, ns, rfl, hs, hn, fun b l H1 s1 fb fl hbx => ?_⟩
  dsimp only
  generalize XB.lamQ _ = lq
  generalize (envOfC _ _ _ _ _).cells = cells
  refine to_dataT (q := lq) (Γ := some (D.obj a) :: some (D.obj b) :: List.replicate 16 none) hbx (s1 _ _ ht) env2 ?_ q
  obtain ⟨B, hB, hBb, hBt, hBq⟩ : ∃ B : Bx, B = { b := b, l := l, t := aT, q := lq } ∧ B.b = b ∧ B.t = aT ∧ B.q = lq := ⟨_, rfl, rfl, rfl, rfl⟩
  have tb : B.t ≠ B.b := by
    rw [hBb, hBt]
    exact fun z => by rw [z, fb] at ht; cases ht
  rw [← hB, ← hBb, ← hBt]
  clear hB
  refine rn_seq (rn_for (ei_rng1 (ea_cons (ev_int (ea_nil ⟨10, rfl, by decide, by decide, ?_⟩)))))
  refine ⟨fun _ Γ => ∃ x2 x3 x4 x5 x6 x7 x8 x9 x10 x11 x12 x13 x14 x15 x16 x17, Γ = [some (.obj a), some (.obj B.b), x2, x3, x4, x5, x6, x7, x8, x9, x10, x11, x12, x13, x14, x15, x16, x17], ⟨_, _, _, _, _, _, _, _, _, _, _, _, _, _, _, _, rfl⟩, fun i d Γ1 hd hΓ => ?_, fun Γ1 hΓ => ?_⟩
  · obtain ⟨x2, x3, x4, x5, x6, x7, x8, x9, x10, x11, x12, x13, x14, x15, x16, x17, rfl⟩ := hΓ
    refine ⟨[2], eg_name (by decide) ?_⟩
    try dsimp only [List.set]
    -- the names
    refine rn_seq (rn_set (ev_call ?_))
    walk_at "dm"
    refine ⟨by decide, fun ws hwl hnd hgood => ?_⟩
    have hwl : ws.length = 10 := hwl
    obtain ⟨w0, w1, w2, w3, w4, w5, w6, w7, w8, w9, rfl⟩ : ∃ w0 w1 w2 w3 w4 w5 w6 w7 w8 w9, ws = [w0, w1, w2, w3, w4, w5, w6, w7, w8, w9] := by
      match ws, hwl with
      | [w0, w1, w2, w3, w4, w5, w6, w7, w8, w9], _ => exact ⟨w0, w1, w2, w3, w4, w5, w6, w7, w8, w9, rfl⟩
    obtain ⟨ρ, hρ⟩ : ∃ ρ, ρ = rho w0 [w0, w1, w2, w3, w4, w5, w6, w7, w8, w9] := ⟨_, rfl⟩
    have R : Rho ρ := by rw [hρ]; exact rho_ok (hgood w0 (by simp)) hgood hwl hnd
    have r0 : w0 = ρ 0 := by rw [hρ]; rfl
    have r3 : w3 = ρ 3 := by rw [hρ]; rfl
    have r4 : w4 = ρ 4 := by rw [hρ]; rfl
    have r5 : w5 = ρ 5 := by rw [hρ]; rfl
    have r6 : w6 = ρ 6 := by rw [hρ]; rfl
    have r7 : w7 = ρ 7 := by rw [hρ]; rfl
    have r8 : w8 = ρ 8 := by rw [hρ]; rfl
    clear hρ hgood hnd hwl
    subst r0 r3 r4 r5 r6 r7 r8
    try dsimp only [List.set, List.map]
    refine rn_seq (rn_asg [4, 5, 6, 7, 8] (ev_tup ?_))
    walk_at "dm"
    refine eg_five (by decide) (by decide) (by decide) (by decide) (by decide) ?_
    try dsimp only [List.set]
    refine rn_seq (rn_set ?_)
    walk_at "dm"
    refine ⟨rfl, _, 7, rfl, rfl, by decide, by decide, of_memN rfl fun od hod => ?_⟩
    obtain ⟨⟨o, isx⟩, ho, rfl⟩ := odd_of hod
    clear hod
    have wo := odd_wf ho
    have eo := odd_ne R ho
    dsimp only at wo eo
    try dsimp only [List.set]
    have pl1 := sy_pl ρ o wo.wf
    have dp1 := wo.dp
    -- wrong ones
    refine rn_seq (rn_set (Ev.mono (P := fun e => e = .lst (toDs ρ (badS o isx))) ?_ fun e he => ?_))
    · generalize htt : (tIf (tTest (tOp (rNeP K) (tVar 11) (tVar 6))) _ _ : TE) = tt
      walk_at "dm"
      refine Ev.mono (P := fun e => e = toD ρ (if isx then .tp [tx "all"] else .tp [tx "all", o, .tp [tx "same", o, aS]])) ?_ fun e1 he1 => ?_
      · rw [← htt]
        cases isx with
        | true =>
          walk_at "dm"
          refine ⟨pl1.1, rfl, by omega, _, rfl, ?_⟩
          rw [eo]
          refine iF rfl ?_
          walk_at "dm"
          rfl
        | false =>
          walk_at "dm"
          refine ⟨pl1.1, rfl, by omega, _, rfl, ?_⟩
          rw [eo]
          refine iT rfl ?_
          walk_at "dm"
          rfl
      subst he1
      clear htt
      walk_at "dm"
      rfl
    --ENDBAD
    subst he
    try dsimp only [List.set]
    refine rn_seq (rn_set (ev_call (ea_cons (ev_var rfl (ea_cons (ev_var rfl (ea_nil ⟨rfl, _, (badS o isx).length, rfl, ?_, ?_, ?_, of_memN (by rw [toDs_len]) fun wr hwr => ?_⟩)))))))
    · show some (toDs ρ (badS o isx)).length = some (badS o isx).length
      rw [toDs_len]
    · exact Nat.le_of_ble_eq_true rfl
    · exact Nat.le_of_ble_eq_true rfl
    rw [toDs_map] at hwr
    obtain ⟨v, hv, rfl⟩ := List.mem_map.mp hwr
    clear hwr
    have bw := fun (u : Sy) (hu : u ∈ wrapS v) => bad_of ho hv hu
    clear hv ho eo wo pl1 dp1
    try dsimp only [List.set]
    -- what stands around it
    refine rn_seq (rn_set (ev_call ?_))
    walk_at "dm"
    refine of_mem fun ar har => ?_
    obtain ⟨k, hk, rfl⟩ : ∃ k : Nat, k < 5 ∧ ar = .int (k : Nat) := by
      simp only [List.mem_cons, List.not_mem_nil, or_false] at har
      rcases har with rfl | rfl | rfl | rfl | rfl
      · exact ⟨0, by decide, rfl⟩
      · exact ⟨1, by decide, rfl⟩
      · exact ⟨2, by decide, rfl⟩
      · exact ⟨3, by decide, rfl⟩
      · exact ⟨4, by decide, rfl⟩
    clear har
    try dsimp only [List.set]
    have wl : ∀ v : Sy, k < (wrapS v).length := fun v => hk
    have pick : ∀ v : Sy, itemD (.lst (toDs ρ (wrapS v))) (.int (k : Nat)) = some (toD ρ ((wrapS v)[k]'(wl v))) := fun v => by
      refine atI_nat ?_
      rw [toDs_map, List.getElem?_map, List.getElem?_eq_getElem (wl v)]
      rfl
    refine rn_seq (rn_set (ev_ix (Ev.mono (P := fun e => e = .lst (toDs ρ (wrapS v))) ?_ fun e he => ?_)))
    · walk_at "dm"
      rfl
    subst he
    refine ev_var rfl ⟨_, pick v, ?_⟩
    obtain ⟨wu, du, su⟩ := bw _ (List.getElem_mem (wl v))
    generalize (wrapS v)[k]'(wl v) = u at wu du su ⊢
    clear bw
    have plu : Pl 7 (toD ρ u) := sy_Pl u 7 wu.wf (by omega)
    have due : Pl 6 (.tup [.str "InvalidSaying", toD ρ u]) := by
      refine .tup (fun x hx => ?_) (Nat.le_of_ble_eq_true rfl)
      rcases List.mem_cons.mp hx with rfl | hx
      · exact .str _
      · rw [List.mem_singleton.mp hx]; exact sy_Pl u 5 wu.wf (by omega)
    try dsimp only [List.set]
    refine rn_seq (rn_if (et_not (et_B (ev_call (ea_cons (ev_got tb hBq fun B' bx px => ?_))))))
    refine ev_mkE (dds := []) (fun H => .nil) rfl QQ.cl QQ.no (ea_cons (ev_lst (ea_cons (ev_var rfl (ea_cons (ev_var rfl (ea_nil ⟨small_n (Nat.le_of_ble_eq_true rfl), ea_cons (ev_var rfl (ea_nil ⟨rfl, ρ, R, u, rfl, wu, .inl ⟨su, du, ?_⟩⟩))⟩)))))))
    rw [px]
    refine got_at HN rfl (by decide) ?_
    clear px bx B'
    refine ea_cons (ev_tup (ea_cons (ev_str (ea_cons (ev_var rfl (ea_nil ⟨small_n (Nat.le_of_ble_eq_true rfl), ea_nil ⟨rfl, _, rfl, due, true, rfl, iF rfl ?_⟩⟩))))))
    refine rn_next ?_
    -- good ones
    refine rn_seq (rn_set (Ev.mono (P := fun e => e = .lst (toDs ρ goodL)) ?_ fun e he => ?_))
    · walk_at "dm"
      rfl
    subst he
    try dsimp only [List.set]
    refine rn_seq (rn_set (ev_call (ea_cons (ev_var rfl (ea_cons (ev_var rfl (ea_nil ⟨rfl, _, goodL.length, rfl, ?_, ?_, ?_, of_memN (by rw [toDs_len]) fun wr hwr => ?_⟩)))))))
    · show some (toDs ρ goodL).length = some goodL.length
      rw [toDs_len]
    · exact Nat.le_of_ble_eq_true rfl
    · exact Nat.le_of_ble_eq_true rfl
    rw [toDs_map] at hwr
    obtain ⟨v2, hv2, rfl⟩ := List.mem_map.mp hwr
    clear hwr
    try dsimp only [List.set]
    refine rn_seq (rn_set (ev_ix (Ev.mono (P := fun e => e = .lst (toDs ρ (wrapS v2))) ?_ fun e he => ?_)))
    · walk_at "dm"
      rfl
    subst he
    refine ev_var rfl ⟨_, pick v2, ?_⟩
    obtain ⟨wz, dz, gz⟩ := good_of hv2 (List.getElem_mem (wl v2))
    generalize (wrapS v2)[k]'(wl v2) = z at wz dz gz ⊢
    have plz : Pl 6 (toD ρ z) := sy_Pl z 6 wz.wf (by omega)
    try dsimp only [List.set]
    refine rn_if (et_not (et_B (ev_call (ea_cons (ev_fld (ev_mkE0 (dds := []) (fun H => .nil) QQ.cl QQ.no (ea_cons (ev_lst (ea_cons (ev_var rfl (ea_cons (ev_var rfl (ea_nil ⟨small_n (Nat.le_of_ble_eq_true rfl), ea_cons (ev_var rfl (ea_nil ⟨rfl, ρ, R, z, rfl, wz, .inr ⟨gz, fun n => ⟨_, _, _, _, rfl, QQ.cl, QQ.no "saying" (by decide), rfl, ea_cons (ev_var rfl (ea_nil ⟨rfl, _, rfl, plz, true, rfl, iF rfl (rn_next ⟨_, _, _, _, _, _, _, _, _, _, _, _, _, _, _, _, rfl⟩)⟩))⟩⟩⟩))⟩)))))))))))))
  · obtain ⟨x2, x3, x4, x5, x6, x7, x8, x9, x10, x11, x12, x13, x14, x15, x16, x17, rfl⟩ := hΓ
    walk_at "dm"
    rfl
end
end KL

set_option maxHeartbeats 4000000
namespace KL
open PySem PySem.Spec PyProof.Rows L2 RZ XE TL DL RD RE XA XB XC XD
theorem ktup_of {K : PySem.W.Frag} {p : Addr} {its : List Value} {n : Nat} {sl : Array (Option Value)} {xs : List V} (l : K.lookup p = some ⟨.type "tuple", none, .seq its.toArray n, sl⟩) (h : its.length ≤ 1000) (r : Vals xs its) : KTup K (.ref p) xs :=
  ⟨p, _, its.toArray, n, rfl, l, rfl, rfl, rfl, by rw [List.size_toArray]; exact small_n h, r⟩
theorem kd_of {K : PySem.W.Frag} {w : World} {a : Addr} {es : Array DictEntry} {n : Nat} {z : Str} {v : V} {u : Value} (l : K.lookup a = some ⟨.type "dict", none, .dict es n, #[]⟩) (k : PySem.W.KeysLit w.params es.toList) (s : (a == sysModules) = false)
    (e : PySem.W.nsIn K a z = some (some u)) (r : RelV v u) : KD K w a z (some v) := ⟨es, n, _, l, k, s, e, r⟩
/-- a promise by its parts -/
theorem cal {P : Program} {w : World} {K : PySem.W.Frag} {mg : Str → Option Value} {base : Heap} {k : Nat} {f : Addr} {fd : FuncData} {ps : List Str} {sp : Sp} (G : FnOk P w K mg base CX0 k f fd ps sp) (kp : PySem.W.keepIn K (.ref f) = true) (b : Binds K fd ps []) : Cal P w K mg base k f ps sp := ⟨⟨fd, G, kp, b⟩⟩
/-- what is asked of a class of exceptions that is made, raised and caught -/
def xnB (K : PySem.W.Frag) (C fI : Addr) (newId : String) (bmB cs : List Value) : Bool :=
  PySem.W.excInitIn K C bmB newId && (PySem.W.excOver K C bmB && (PySem.W.hasDictIn K C && (PySem.W.keepIn K (.ref C) && (
  decide (PySem.W.findIn K (.ref C) "__setattr__" = some (some (.builtin "object.__setattr__"))) && (decide (PySem.W.findIn K (.ref C) "__init__" = some (some (.ref fI))) && (decide (PySem.W.typeIn K (.ref fI) = some (.type "function")) && (
  xfB K C && (decide (PySem.W.typeIn K (.ref C) = some (.type "type")) && (decide (PySem.W.subIn K (.ref C) (.type "BaseException") = some true) && (
  fieldN.all (fun f => decide (PySem.W.findIn K (.ref C) f = some none)) && decide (PySem.W.exmAny K (.ref C) cs = some true)))))))))))
structure XN (K : PySem.W.Frag) (C fI : Addr) (cs : List Value) : Prop where
  mks : XMk K C fI
  st : ∀ f, f ∈ fieldN → XSt K C f
  rs : XRs K C
  hn : Hnd K cs C
theorem xn_ok {K : PySem.W.Frag} {C fI : Addr} {newId : String} {bmB cs : List Value} (bf : ∃ B initId, ExcBaseFacts B newId initId bmB ∧ StoreFacts B bmB "object.__setattr__" "object") (h : xnB K C fI newId bmB cs = true) : XN K C fI cs := by
  obtain ⟨B, initId, FB, SF⟩ := bf
  unfold xnB at h
  simp only [Bool.and_eq_true, decide_eq_true_eq, List.all_eq_true] at h
  obtain ⟨h1, h2, h3, h4, h5, h6, h7, h8, h9, h10, h11, h12⟩ := h
  exact ⟨⟨⟨B, newId, initId, bmB, FB, h1⟩, h6, h7, h4⟩, fun f hf => ⟨⟨B, bmB, SF, h2⟩, h3, h5, h11 f hf⟩, ⟨h10, h9⟩, ⟨xfB_ok h8, h11, h12⟩⟩
def qstB (K : PySem.W.Frag) (C aI : Addr) : Bool :=
  PySem.W.plainGet K C Str.empty && (PySem.W.hasDictIn K C && (PySem.W.plainOver K C && (decide (PySem.W.findIn K (.ref C) "__setattr__" = some (some (.builtin "object.__setattr__"))) && (
  PySem.W.makesIn K C && (PySem.W.isFn K (.ref aI) && (PySem.W.keepIn K (.ref C) && (qnN.all fun f => decide (PySem.W.findIn K (.ref C) f = some none))))))))
theorem qst_ok {K : PySem.W.Frag} {C aI : Addr} (b : qstB K C aI = true) (ri : PySem.W.findIn K (.ref C) "__init__" = some (some (.ref aI))) : Qst K C aI := by
  unfold qstB at b
  simp only [Bool.and_eq_true, decide_eq_true_eq, List.all_eq_true] at b
  obtain ⟨b1, b2, b3, b4, b5, b6, b7, b8⟩ := b
  exact ⟨⟨b1, b2, b3, b4⟩, ⟨b5, ri, b6, b7⟩, b8⟩
theorem fn_up {P : Program} {w : World} {K : PySem.W.Frag} {mg : Str → Option Value} {base : Heap} {CX : CXT} {f : Addr} {fd : FuncData} {ps : List Str} {sp : Sp} (h : FnOk P w K mg base CX 6 f fd ps sp) : FnOk P w K mg base CX 7 f fd ps sp where
  len := h.len
  run := fun A outer s H args us vs Q E hr => h.run A outer s H args us vs Q E (hr.mono (by omega))
theorem none_of {P : Program} {w : World} {K : PySem.W.Frag} {mg : Str → Option Value} {base : Heap} {k n : Nat} {f : Addr} {fd : FuncData} {ps : List Str} {F : Bx → List D → (D → Prop) → Prop} (h : ∀ B ds P, F B ds P → False) : FnOk P w K mg base CX0 k f fd ps (SpD K n F) where
  len := fun vs H Q E ⟨hl, B, M, ds, Pd, g, hd, p, q⟩ => (h _ _ _ p).elim
  run := fun A outer s H args us vs Q E hr e0 hb hv ⟨hl, B, M, ds, Pd, g, hd, p, q⟩ => (h _ _ _ p).elim
theorem anyRho {P : Program} {w : World} {K : PySem.W.Frag} {mg : Str → Option Value} {base : Heap} {CX : CXT} {k n : Nat} {f : Addr} {fd : FuncData} {ps ns : List Str} {G : (Nat → Str) → Bx → List D → (List D → Prop) → (Addr → List Str → List D → Prop) → Prop} (h : ∀ ρ, Rho ρ → FnOk P w K mg base CX k f fd ps (SpNE K n ns (G ρ))) : FnOk P w K mg base CX k f fd ps (SpNE K n ns fun B ds P PX => ∃ ρ, Rho ρ ∧ G ρ B ds P PX) where
  len := fun vs H Q E ⟨B, M, a, C, dx, us, ds, Pd, PX, e, hl, g, ia, za, ea, c, no, dn, ⟨ρ, R, p⟩, q⟩ => (h ρ R).len vs H Q E ⟨B, M, a, C, dx, us, ds, Pd, PX, e, hl, g, ia, za, ea, c, no, dn, p, q⟩
  run := fun A outer s H args us' vs Q E hr e0 hb hv ⟨B, M, a, C, dx, us, ds, Pd, PX, e, hl, g, ia, za, ea, c, no, dn, ⟨ρ, R, p⟩, q⟩ => (h ρ R).run A outer s H args us' vs Q E hr e0 hb hv ⟨B, M, a, C, dx, us, ds, Pd, PX, e, hl, g, ia, za, ea, c, no, dn, p, q⟩

theorem all_mk {l : PySem.W.OpenLaw} {w : World} {K : PySem.W.Frag} {h : Heap} {mg : Str → Option Value} {fa a_law : Addr} {a_copied a_as_items a_is_name a_is_number a_number_in a_is_test a_has_shape a_is_saying a_is_item a_sayings_in a_table_uses a_is_within_limits a_words_of a_word_at a_read_saying a_read_item a_read_test a_are_names a__law_box a__law_pull a__law_of a__law_words a__law_same a__law_field a__law_got a_OnceError a_InvalidNames a_InvalidSaying a_InvalidText a_Missing a_NothingLeft a_Question a_SHAPES a_TESTS a_dT i_Question s_0 s_1 s_2 s_3 s_4 s_5 s_6 s_7 s_8 s_9 s_10 s_11 i_OnceError i_InvalidSaying a_C a_T : Addr} {t_DEEPEST_COPY t_LETTERS t_DIGITS t_LONGEST_NAME t_LONGEST_NUMBER t_MOST_FORMS t_MOST_DEEP t_MOST_SCOPE t_MOST_BOUND t_MOST_NAMES t_dD ts_0_0 ts_0_1 ts_1_0 ts_1_1 ts_1_2 ts_2_0 ts_2_1 ts_3_0 ts_3_1 ts_4_0 ts_5_0 ts_5_1 ts_6_0 ts_6_1 ts_7_0 ts_7_1 ts_8_0 ts_8_1 ts_9_0 ts_9_1 ts_9_2 ts_10_0 ts_10_1 ts_10_2 ts_10_3 ts_10_4 ts_11_0 ts_11_1 ts_11_2 ts_11_3 ts_11_4 ts_11_5 : Tok} {n_dT nS ns_0 ns_1 ns_2 ns_3 ns_4 ns_5 ns_6 ns_7 ns_8 ns_9 ns_10 ns_11 : Nat} {esS : Array DictEntry} (X : K.In h) (G : h.Ns mainGlobals mg) (hfa : mg "law" = some (.ref fa))
    {od_as_items od_is_name od_is_number od_number_in od_is_test od_has_shape od_is_saying od_is_item od_sayings_in od_table_uses od_is_within_limits od_words_of od_word_at od_read_saying od_read_item od_read_test od_are_names od__law_box od__law_pull od__law_of od__law_words od__law_same od__law_field od__law_got od_law od_copied od_dT od_i_Question od_i_OnceError od_i_InvalidSaying od_C : Option Addr} {sl_as_items sl_is_name sl_is_number sl_number_in sl_is_test sl_has_shape sl_is_saying sl_is_item sl_sayings_in sl_table_uses sl_is_within_limits sl_words_of sl_word_at sl_read_saying sl_read_item sl_read_test sl_are_names sl__law_box sl__law_pull sl__law_of sl__law_words sl__law_same sl__law_field sl__law_got sl_law sl_copied sl_dT sl_i_Question sls_0 sls_1 sls_2 sls_3 sls_4 sls_5 sls_6 sls_7 sls_8 sls_9 sls_10 sls_11 sl_i_OnceError sl_i_InvalidSaying sl_C : Array (Option Value)} {vs_C : Array Value} {oc_as_items dc_as_items pm_as_items cd_as_items ct_as_items kV_as_items oc_is_name dc_is_name pm_is_name cd_is_name ct_is_name kV_is_name oc_is_number dc_is_number pm_is_number cd_is_number ct_is_number kV_is_number oc_number_in dc_number_in pm_number_in cd_number_in ct_number_in kV_number_in oc_is_test dc_is_test pm_is_test cd_is_test ct_is_test kV_is_test oc_has_shape dc_has_shape pm_has_shape cd_has_shape ct_has_shape kV_has_shape oc_is_saying dc_is_saying pm_is_saying cd_is_saying ct_is_saying kV_is_saying oc_is_item dc_is_item pm_is_item cd_is_item ct_is_item kV_is_item oc_sayings_in dc_sayings_in pm_sayings_in cd_sayings_in ct_sayings_in kV_sayings_in oc_table_uses dc_table_uses pm_table_uses cd_table_uses ct_table_uses kV_table_uses oc_is_within_limits dc_is_within_limits pm_is_within_limits cd_is_within_limits ct_is_within_limits kV_is_within_limits oc_words_of dc_words_of pm_words_of cd_words_of ct_words_of kV_words_of oc_word_at dc_word_at pm_word_at cd_word_at ct_word_at kV_word_at oc_read_saying dc_read_saying pm_read_saying cd_read_saying ct_read_saying kV_read_saying oc_read_item dc_read_item pm_read_item cd_read_item ct_read_item kV_read_item oc_read_test dc_read_test pm_read_test cd_read_test ct_read_test kV_read_test oc_are_names dc_are_names pm_are_names cd_are_names ct_are_names kV_are_names oc__law_box dc__law_box pm__law_box cd__law_box ct__law_box kV__law_box oc__law_pull dc__law_pull pm__law_pull cd__law_pull ct__law_pull kV__law_pull oc__law_of dc__law_of pm__law_of cd__law_of ct__law_of kV__law_of oc__law_words dc__law_words pm__law_words cd__law_words ct__law_words kV__law_words oc__law_same dc__law_same pm__law_same cd__law_same ct__law_same kV__law_same oc__law_field dc__law_field pm__law_field cd__law_field ct__law_field kV__law_field oc__law_got dc__law_got pm__law_got cd__law_got ct__law_got kV__law_got oc_law dc_law pm_law ct_law kV_law oc_copied dc_copied pm_copied cd_copied ct_copied kV_copied oc_dT oc_i_Question dc_i_Question pm_i_Question cd_i_Question ct_i_Question kV_i_Question oc_i_OnceError dc_i_OnceError pm_i_OnceError cd_i_OnceError ct_i_OnceError kV_i_OnceError oc_i_InvalidSaying dc_i_InvalidSaying pm_i_InvalidSaying cd_i_InvalidSaying ct_i_InvalidSaying kV_i_InvalidSaying oc_C : Value} {an_as_items an_is_name an_is_number an_number_in an_is_test an_has_shape an_is_saying an_is_item an_sayings_in an_table_uses an_is_within_limits an_words_of an_word_at an_read_saying an_read_item an_read_test an_are_names an__law_box an__law_pull an__law_of an__law_words an__law_same an__law_field an__law_got an_law an_copied an_i_Question an_i_OnceError an_i_InvalidSaying : Option Addr}
    (acopied : PySem.W.nsIn K mainGlobals "copied" = some (some (.ref a_copied)))
    (aOnceError : PySem.W.nsIn K mainGlobals "OnceError" = some (some (.ref a_OnceError)))
    (aInvalidNames : PySem.W.nsIn K mainGlobals "InvalidNames" = some (some (.ref a_InvalidNames)))
    (aInvalidSaying : PySem.W.nsIn K mainGlobals "InvalidSaying" = some (some (.ref a_InvalidSaying)))
    (aInvalidText : PySem.W.nsIn K mainGlobals "InvalidText" = some (some (.ref a_InvalidText)))
    (aMissing : PySem.W.nsIn K mainGlobals "Missing" = some (some (.ref a_Missing)))
    (aNothingLeft : PySem.W.nsIn K mainGlobals "NothingLeft" = some (some (.ref a_NothingLeft)))
    (aQuestion : PySem.W.nsIn K mainGlobals "Question" = some (some (.ref a_Question)))
    (aSHAPES : PySem.W.nsIn K mainGlobals "SHAPES" = some (some (.ref a_SHAPES)))
    (aTESTS : PySem.W.nsIn K mainGlobals "TESTS" = some (some (.ref a_TESTS)))
    (aas_items : PySem.W.nsIn K mainGlobals "as_items" = some (some (.ref a_as_items)))
    (las_items : K.lookup a_as_items = some ⟨oc_as_items, od_as_items, .func (PySem.W.fnOf "as_items" "as_items" (defArgs s_as_items) (defBody s_as_items) (defScope s_as_items) .none kV_as_items dc_as_items pm_as_items an_as_items cd_as_items ct_as_items), sl_as_items⟩)
    (cas_items : PySem.W.codeIn K cd_as_items "as_items" = true)
    (kas_items : PySem.W.keepIn K (.ref a_as_items) = true)
    (ais_name : PySem.W.nsIn K mainGlobals "is_name" = some (some (.ref a_is_name)))
    (lis_name : K.lookup a_is_name = some ⟨oc_is_name, od_is_name, .func (PySem.W.fnOf "is_name" "is_name" (defArgs s_is_name) (defBody s_is_name) (defScope s_is_name) .none kV_is_name dc_is_name pm_is_name an_is_name cd_is_name ct_is_name), sl_is_name⟩)
    (cis_name : PySem.W.codeIn K cd_is_name "is_name" = true)
    (kis_name : PySem.W.keepIn K (.ref a_is_name) = true)
    (ais_number : PySem.W.nsIn K mainGlobals "is_number" = some (some (.ref a_is_number)))
    (lis_number : K.lookup a_is_number = some ⟨oc_is_number, od_is_number, .func (PySem.W.fnOf "is_number" "is_number" (defArgs s_is_number) (defBody s_is_number) (defScope s_is_number) .none kV_is_number dc_is_number pm_is_number an_is_number cd_is_number ct_is_number), sl_is_number⟩)
    (cis_number : PySem.W.codeIn K cd_is_number "is_number" = true)
    (kis_number : PySem.W.keepIn K (.ref a_is_number) = true)
    (anumber_in : PySem.W.nsIn K mainGlobals "number_in" = some (some (.ref a_number_in)))
    (lnumber_in : K.lookup a_number_in = some ⟨oc_number_in, od_number_in, .func (PySem.W.fnOf "number_in" "number_in" (defArgs s_number_in) (defBody s_number_in) (defScope s_number_in) .none kV_number_in dc_number_in pm_number_in an_number_in cd_number_in ct_number_in), sl_number_in⟩)
    (cnumber_in : PySem.W.codeIn K cd_number_in "number_in" = true)
    (knumber_in : PySem.W.keepIn K (.ref a_number_in) = true)
    (ais_test : PySem.W.nsIn K mainGlobals "is_test" = some (some (.ref a_is_test)))
    (lis_test : K.lookup a_is_test = some ⟨oc_is_test, od_is_test, .func (PySem.W.fnOf "is_test" "is_test" (defArgs s_is_test) (defBody s_is_test) (defScope s_is_test) .none kV_is_test dc_is_test pm_is_test an_is_test cd_is_test ct_is_test), sl_is_test⟩)
    (cis_test : PySem.W.codeIn K cd_is_test "is_test" = true)
    (kis_test : PySem.W.keepIn K (.ref a_is_test) = true)
    (ahas_shape : PySem.W.nsIn K mainGlobals "has_shape" = some (some (.ref a_has_shape)))
    (lhas_shape : K.lookup a_has_shape = some ⟨oc_has_shape, od_has_shape, .func (PySem.W.fnOf "has_shape" "has_shape" (defArgs s_has_shape) (defBody s_has_shape) (defScope s_has_shape) .none kV_has_shape dc_has_shape pm_has_shape an_has_shape cd_has_shape ct_has_shape), sl_has_shape⟩)
    (chas_shape : PySem.W.codeIn K cd_has_shape "has_shape" = true)
    (khas_shape : PySem.W.keepIn K (.ref a_has_shape) = true)
    (ais_saying : PySem.W.nsIn K mainGlobals "is_saying" = some (some (.ref a_is_saying)))
    (lis_saying : K.lookup a_is_saying = some ⟨oc_is_saying, od_is_saying, .func (PySem.W.fnOf "is_saying" "is_saying" (defArgs s_is_saying) (defBody s_is_saying) (defScope s_is_saying) .none kV_is_saying dc_is_saying pm_is_saying an_is_saying cd_is_saying ct_is_saying), sl_is_saying⟩)
    (cis_saying : PySem.W.codeIn K cd_is_saying "is_saying" = true)
    (kis_saying : PySem.W.keepIn K (.ref a_is_saying) = true)
    (ais_item : PySem.W.nsIn K mainGlobals "is_item" = some (some (.ref a_is_item)))
    (lis_item : K.lookup a_is_item = some ⟨oc_is_item, od_is_item, .func (PySem.W.fnOf "is_item" "is_item" (defArgs s_is_item) (defBody s_is_item) (defScope s_is_item) .none kV_is_item dc_is_item pm_is_item an_is_item cd_is_item ct_is_item), sl_is_item⟩)
    (cis_item : PySem.W.codeIn K cd_is_item "is_item" = true)
    (kis_item : PySem.W.keepIn K (.ref a_is_item) = true)
    (asayings_in : PySem.W.nsIn K mainGlobals "sayings_in" = some (some (.ref a_sayings_in)))
    (lsayings_in : K.lookup a_sayings_in = some ⟨oc_sayings_in, od_sayings_in, .func (PySem.W.fnOf "sayings_in" "sayings_in" (defArgs s_sayings_in) (defBody s_sayings_in) (defScope s_sayings_in) .none kV_sayings_in dc_sayings_in pm_sayings_in an_sayings_in cd_sayings_in ct_sayings_in), sl_sayings_in⟩)
    (csayings_in : PySem.W.codeIn K cd_sayings_in "sayings_in" = true)
    (ksayings_in : PySem.W.keepIn K (.ref a_sayings_in) = true)
    (atable_uses : PySem.W.nsIn K mainGlobals "table_uses" = some (some (.ref a_table_uses)))
    (ltable_uses : K.lookup a_table_uses = some ⟨oc_table_uses, od_table_uses, .func (PySem.W.fnOf "table_uses" "table_uses" (defArgs s_table_uses) (defBody s_table_uses) (defScope s_table_uses) .none kV_table_uses dc_table_uses pm_table_uses an_table_uses cd_table_uses ct_table_uses), sl_table_uses⟩)
    (ctable_uses : PySem.W.codeIn K cd_table_uses "table_uses" = true)
    (ktable_uses : PySem.W.keepIn K (.ref a_table_uses) = true)
    (ais_within_limits : PySem.W.nsIn K mainGlobals "is_within_limits" = some (some (.ref a_is_within_limits)))
    (lis_within_limits : K.lookup a_is_within_limits = some ⟨oc_is_within_limits, od_is_within_limits, .func (PySem.W.fnOf "is_within_limits" "is_within_limits" (defArgs s_is_within_limits) (defBody s_is_within_limits) (defScope s_is_within_limits) .none kV_is_within_limits dc_is_within_limits pm_is_within_limits an_is_within_limits cd_is_within_limits ct_is_within_limits), sl_is_within_limits⟩)
    (cis_within_limits : PySem.W.codeIn K cd_is_within_limits "is_within_limits" = true)
    (kis_within_limits : PySem.W.keepIn K (.ref a_is_within_limits) = true)
    (awords_of : PySem.W.nsIn K mainGlobals "words_of" = some (some (.ref a_words_of)))
    (lwords_of : K.lookup a_words_of = some ⟨oc_words_of, od_words_of, .func (PySem.W.fnOf "words_of" "words_of" (defArgs s_words_of) (defBody s_words_of) (defScope s_words_of) .none kV_words_of dc_words_of pm_words_of an_words_of cd_words_of ct_words_of), sl_words_of⟩)
    (cwords_of : PySem.W.codeIn K cd_words_of "words_of" = true)
    (kwords_of : PySem.W.keepIn K (.ref a_words_of) = true)
    (aword_at : PySem.W.nsIn K mainGlobals "word_at" = some (some (.ref a_word_at)))
    (lword_at : K.lookup a_word_at = some ⟨oc_word_at, od_word_at, .func (PySem.W.fnOf "word_at" "word_at" (defArgs s_word_at) (defBody s_word_at) (defScope s_word_at) .none kV_word_at dc_word_at pm_word_at an_word_at cd_word_at ct_word_at), sl_word_at⟩)
    (cword_at : PySem.W.codeIn K cd_word_at "word_at" = true)
    (kword_at : PySem.W.keepIn K (.ref a_word_at) = true)
    (aread_saying : PySem.W.nsIn K mainGlobals "read_saying" = some (some (.ref a_read_saying)))
    (lread_saying : K.lookup a_read_saying = some ⟨oc_read_saying, od_read_saying, .func (PySem.W.fnOf "read_saying" "read_saying" (defArgs s_read_saying) (defBody s_read_saying) (defScope s_read_saying) .none kV_read_saying dc_read_saying pm_read_saying an_read_saying cd_read_saying ct_read_saying), sl_read_saying⟩)
    (cread_saying : PySem.W.codeIn K cd_read_saying "read_saying" = true)
    (kread_saying : PySem.W.keepIn K (.ref a_read_saying) = true)
    (aread_item : PySem.W.nsIn K mainGlobals "read_item" = some (some (.ref a_read_item)))
    (lread_item : K.lookup a_read_item = some ⟨oc_read_item, od_read_item, .func (PySem.W.fnOf "read_item" "read_item" (defArgs s_read_item) (defBody s_read_item) (defScope s_read_item) .none kV_read_item dc_read_item pm_read_item an_read_item cd_read_item ct_read_item), sl_read_item⟩)
    (cread_item : PySem.W.codeIn K cd_read_item "read_item" = true)
    (kread_item : PySem.W.keepIn K (.ref a_read_item) = true)
    (aread_test : PySem.W.nsIn K mainGlobals "read_test" = some (some (.ref a_read_test)))
    (lread_test : K.lookup a_read_test = some ⟨oc_read_test, od_read_test, .func (PySem.W.fnOf "read_test" "read_test" (defArgs s_read_test) (defBody s_read_test) (defScope s_read_test) .none kV_read_test dc_read_test pm_read_test an_read_test cd_read_test ct_read_test), sl_read_test⟩)
    (cread_test : PySem.W.codeIn K cd_read_test "read_test" = true)
    (kread_test : PySem.W.keepIn K (.ref a_read_test) = true)
    (aare_names : PySem.W.nsIn K mainGlobals "are_names" = some (some (.ref a_are_names)))
    (lare_names : K.lookup a_are_names = some ⟨oc_are_names, od_are_names, .func (PySem.W.fnOf "are_names" "are_names" (defArgs s_are_names) (defBody s_are_names) (defScope s_are_names) .none kV_are_names dc_are_names pm_are_names an_are_names cd_are_names ct_are_names), sl_are_names⟩)
    (care_names : PySem.W.codeIn K cd_are_names "are_names" = true)
    (kare_names : PySem.W.keepIn K (.ref a_are_names) = true)
    (a_law_box : PySem.W.nsIn K mainGlobals "_law_box" = some (some (.ref a__law_box)))
    (l_law_box : K.lookup a__law_box = some ⟨oc__law_box, od__law_box, .func (PySem.W.fnOf "_law_box" "_law_box" (defArgs s__law_box) (defBody s__law_box) (defScope s__law_box) .none kV__law_box dc__law_box pm__law_box an__law_box cd__law_box ct__law_box), sl__law_box⟩)
    (c_law_box : PySem.W.codeIn K cd__law_box "_law_box" = true)
    (k_law_box : PySem.W.keepIn K (.ref a__law_box) = true)
    (a_law_pull : PySem.W.nsIn K mainGlobals "_law_pull" = some (some (.ref a__law_pull)))
    (l_law_pull : K.lookup a__law_pull = some ⟨oc__law_pull, od__law_pull, .func (PySem.W.fnOf "_law_pull" "_law_pull" (defArgs s__law_pull) (defBody s__law_pull) (defScope s__law_pull) .none kV__law_pull dc__law_pull pm__law_pull an__law_pull cd__law_pull ct__law_pull), sl__law_pull⟩)
    (c_law_pull : PySem.W.codeIn K cd__law_pull "_law_pull" = true)
    (k_law_pull : PySem.W.keepIn K (.ref a__law_pull) = true)
    (a_law_of : PySem.W.nsIn K mainGlobals "_law_of" = some (some (.ref a__law_of)))
    (l_law_of : K.lookup a__law_of = some ⟨oc__law_of, od__law_of, .func (PySem.W.fnOf "_law_of" "_law_of" (defArgs s__law_of) (defBody s__law_of) (defScope s__law_of) .none kV__law_of dc__law_of pm__law_of an__law_of cd__law_of ct__law_of), sl__law_of⟩)
    (c_law_of : PySem.W.codeIn K cd__law_of "_law_of" = true)
    (k_law_of : PySem.W.keepIn K (.ref a__law_of) = true)
    (a_law_words : PySem.W.nsIn K mainGlobals "_law_words" = some (some (.ref a__law_words)))
    (l_law_words : K.lookup a__law_words = some ⟨oc__law_words, od__law_words, .func (PySem.W.fnOf "_law_words" "_law_words" (defArgs s__law_words) (defBody s__law_words) (defScope s__law_words) .none kV__law_words dc__law_words pm__law_words an__law_words cd__law_words ct__law_words), sl__law_words⟩)
    (c_law_words : PySem.W.codeIn K cd__law_words "_law_words" = true)
    (k_law_words : PySem.W.keepIn K (.ref a__law_words) = true)
    (a_law_same : PySem.W.nsIn K mainGlobals "_law_same" = some (some (.ref a__law_same)))
    (l_law_same : K.lookup a__law_same = some ⟨oc__law_same, od__law_same, .func (PySem.W.fnOf "_law_same" "_law_same" (defArgs s__law_same) (defBody s__law_same) (defScope s__law_same) .none kV__law_same dc__law_same pm__law_same an__law_same cd__law_same ct__law_same), sl__law_same⟩)
    (c_law_same : PySem.W.codeIn K cd__law_same "_law_same" = true)
    (k_law_same : PySem.W.keepIn K (.ref a__law_same) = true)
    (a_law_field : PySem.W.nsIn K mainGlobals "_law_field" = some (some (.ref a__law_field)))
    (l_law_field : K.lookup a__law_field = some ⟨oc__law_field, od__law_field, .func (PySem.W.fnOf "_law_field" "_law_field" (defArgs s__law_field) (defBody s__law_field) (defScope s__law_field) .none kV__law_field dc__law_field pm__law_field an__law_field cd__law_field ct__law_field), sl__law_field⟩)
    (c_law_field : PySem.W.codeIn K cd__law_field "_law_field" = true)
    (k_law_field : PySem.W.keepIn K (.ref a__law_field) = true)
    (a_law_got : PySem.W.nsIn K mainGlobals "_law_got" = some (some (.ref a__law_got)))
    (l_law_got : K.lookup a__law_got = some ⟨oc__law_got, od__law_got, .func (PySem.W.fnOf "_law_got" "_law_got" (defArgs s__law_got) (defBody s__law_got) (defScope s__law_got) .none kV__law_got dc__law_got pm__law_got an__law_got cd__law_got ct__law_got), sl__law_got⟩)
    (c_law_got : PySem.W.codeIn K cd__law_got "_law_got" = true)
    (k_law_got : PySem.W.keepIn K (.ref a__law_got) = true)
    (alaw : PySem.W.nsIn K mainGlobals "law" = some (some (.ref a_law)))
    (llaw : K.lookup a_law = some ⟨oc_law, od_law, .func (PySem.W.fnOf "law" "law" (defArgs s_law) (defBody s_law) (defScope s_law) .none kV_law dc_law pm_law an_law (.ref a_C) ct_law), sl_law⟩)
    (claw : PySem.W.codeIn K (.ref a_C) "law" = true)
    (klaw : PySem.W.keepIn K (.ref a_law) = true)
    (lcopied : K.lookup a_copied = some ⟨oc_copied, od_copied, .func (PySem.W.fnOf "copied" "copied" (defArgs s_copied) (defBody s_copied) (defScope s_copied) (.ref a_dT) kV_copied dc_copied pm_copied an_copied cd_copied ct_copied), sl_copied⟩)
    (dcopied : K.lookup a_dT = some ⟨oc_dT, od_dT, .seq [Value.int 40 t_dD].toArray n_dT, sl_dT⟩)
    (ccopied : PySem.W.codeIn K cd_copied "copied" = true)
    (kcopied : PySem.W.keepIn K (.ref a_copied) = true)
    (xi : PySem.W.findIn K (.ref a_Question) "__init__" = some (some (.ref i_Question)))
    (li_Question : K.lookup i_Question = some ⟨oc_i_Question, od_i_Question, .func (PySem.W.fnOf "__init__" "Question.__init__" (defArgs s_Question___init__) (defBody s_Question___init__) (defScope s_Question___init__) .none kV_i_Question dc_i_Question pm_i_Question an_i_Question cd_i_Question ct_i_Question), sl_i_Question⟩)
    (ci_Question : PySem.W.codeIn K cd_i_Question "Question.__init__" = true)
    (ki_Question : PySem.W.keepIn K (.ref i_Question) = true)
    (yQ : qstB K a_Question i_Question = true)
    (lSH : K.lookup a_SHAPES = some ⟨.type "dict", none, .dict esS nS, #[]⟩)
    (sn0 : PySem.W.nsIn K a_SHAPES "has" = some (some (.ref s_0)))
    (st0 : K.lookup s_0 = some ⟨.type "tuple", none, .seq [Value.str "table" ts_0_0, Value.str "name" ts_0_1].toArray ns_0, sls_0⟩)
    (sn1 : PySem.W.nsIn K a_SHAPES "link" = some (some (.ref s_1)))
    (st1 : K.lookup s_1 = some ⟨.type "tuple", none, .seq [Value.str "table" ts_1_0, Value.str "name" ts_1_1, Value.str "name" ts_1_2].toArray ns_1, sls_1⟩)
    (sn2 : PySem.W.nsIn K a_SHAPES "same" = some (some (.ref s_2)))
    (st2 : K.lookup s_2 = some ⟨.type "tuple", none, .seq [Value.str "name" ts_2_0, Value.str "name" ts_2_1].toArray ns_2, sls_2⟩)
    (sn3 : PySem.W.nsIn K a_SHAPES "less" = some (some (.ref s_3)))
    (st3 : K.lookup s_3 = some ⟨.type "tuple", none, .seq [Value.str "name" ts_3_0, Value.str "name" ts_3_1].toArray ns_3, sls_3⟩)
    (sn4 : PySem.W.nsIn K a_SHAPES "not" = some (some (.ref s_4)))
    (st4 : K.lookup s_4 = some ⟨.type "tuple", none, .seq [Value.str "saying" ts_4_0].toArray ns_4, sls_4⟩)
    (sn5 : PySem.W.nsIn K a_SHAPES "and" = some (some (.ref s_5)))
    (st5 : K.lookup s_5 = some ⟨.type "tuple", none, .seq [Value.str "saying" ts_5_0, Value.str "saying" ts_5_1].toArray ns_5, sls_5⟩)
    (sn6 : PySem.W.nsIn K a_SHAPES "or" = some (some (.ref s_6)))
    (st6 : K.lookup s_6 = some ⟨.type "tuple", none, .seq [Value.str "saying" ts_6_0, Value.str "saying" ts_6_1].toArray ns_6, sls_6⟩)
    (sn7 : PySem.W.nsIn K a_SHAPES "some" = some (some (.ref s_7)))
    (st7 : K.lookup s_7 = some ⟨.type "tuple", none, .seq [Value.str "new" ts_7_0, Value.str "saying" ts_7_1].toArray ns_7, sls_7⟩)
    (sn8 : PySem.W.nsIn K a_SHAPES "all" = some (some (.ref s_8)))
    (st8 : K.lookup s_8 = some ⟨.type "tuple", none, .seq [Value.str "new" ts_8_0, Value.str "saying" ts_8_1].toArray ns_8, sls_8⟩)
    (sn9 : PySem.W.nsIn K a_SHAPES "count" = some (some (.ref s_9)))
    (st9 : K.lookup s_9 = some ⟨.type "tuple", none, .seq [Value.str "new" ts_9_0, Value.str "test" ts_9_1, Value.str "saying" ts_9_2].toArray ns_9, sls_9⟩)
    (sn10 : PySem.W.nsIn K a_SHAPES "way" = some (some (.ref s_10)))
    (st10 : K.lookup s_10 = some ⟨.type "tuple", none, .seq [Value.str "new" ts_10_0, Value.str "new" ts_10_1, Value.str "saying" ts_10_2, Value.str "name" ts_10_3, Value.str "name" ts_10_4].toArray ns_10, sls_10⟩)
    (sn11 : PySem.W.nsIn K a_SHAPES "within" = some (some (.ref s_11)))
    (st11 : K.lookup s_11 = some ⟨.type "tuple", none, .seq [Value.str "steps" ts_11_0, Value.str "new" ts_11_1, Value.str "new" ts_11_2, Value.str "saying" ts_11_3, Value.str "name" ts_11_4, Value.str "name" ts_11_5].toArray ns_11, sls_11⟩)
    (snM : PySem.W.nsIn K a_SHAPES "maybe" = some none)
    (ySH : PySem.W.KeysLit w.params esS.toList)
    (yLO : (a_SHAPES == sysModules) = false)
    (sOnceError : PySem.W.specialIn K (.ref a_OnceError) "__getattribute__" = some (some (.builtin "type.__getattribute__")))
    (rOnceError : PySem.W.readsIn K a_OnceError (.type "type") = true)
    (fOnceError : PySem.W.findCls K (.ref a_OnceError) (.type "type") "__init__" = some (.val (.ref i_OnceError)))
    (li_OnceError : K.lookup i_OnceError = some ⟨oc_i_OnceError, od_i_OnceError, .func (PySem.W.fnOf "__init__" "OnceError.__init__" (defArgs s_OnceError___init__) (defBody s_OnceError___init__) (defScope s_OnceError___init__) .none kV_i_OnceError dc_i_OnceError pm_i_OnceError an_i_OnceError cd_i_OnceError ct_i_OnceError), sl_i_OnceError⟩)
    (ci_OnceError : PySem.W.codeIn K cd_i_OnceError "OnceError.__init__" = true)
    (ki_OnceError : PySem.W.keepIn K (.ref i_OnceError) = true)
    (hInvalidSaying : PySem.W.findIn K (.ref a_InvalidSaying) "__init__" = some (some (.ref i_InvalidSaying)))
    (li_InvalidSaying : K.lookup i_InvalidSaying = some ⟨oc_i_InvalidSaying, od_i_InvalidSaying, .func (PySem.W.fnOf "__init__" "InvalidSaying.__init__" (defArgs s_InvalidSaying___init__) (defBody s_InvalidSaying___init__) (defScope s_InvalidSaying___init__) .none kV_i_InvalidSaying dc_i_InvalidSaying pm_i_InvalidSaying an_i_InvalidSaying cd_i_InvalidSaying ct_i_InvalidSaying), sl_i_InvalidSaying⟩)
    (ci_InvalidSaying : PySem.W.codeIn K cd_i_InvalidSaying "InvalidSaying.__init__" = true)
    (ki_InvalidSaying : PySem.W.keepIn K (.ref i_InvalidSaying) = true)
    (yInvalidSaying : xnB K a_InvalidSaying i_InvalidSaying "ValueError.__new__" [Value.type "ValueError", .type "Exception", .type "BaseException", .type "object"] [.ref a_OnceError, .ref a_Missing, .ref a_NothingLeft] = true)
    (lC : K.lookup a_C = some ⟨oc_C, od_C, .fields vs_C, sl_C⟩)
    (tC : (vs_C[11]? : Option Value) = some (.ref a_T))
    (ytab : PySem.W.codeHdIn K a_C a_T = true)
    (yno : K.lookup a_T = none)
    (yat : h.get? a_T = some (PySem.W.tabObj #[]))
    (vDEEPEST_COPY : PySem.W.nsIn K mainGlobals "DEEPEST_COPY" = some (some (.int 40 t_DEEPEST_COPY)))
    (vLETTERS : PySem.W.nsIn K mainGlobals "LETTERS" = some (some (.str "abcdefghijklmnopqrstuvwxyz" t_LETTERS)))
    (vDIGITS : PySem.W.nsIn K mainGlobals "DIGITS" = some (some (.str "0123456789" t_DIGITS)))
    (vLONGEST_NAME : PySem.W.nsIn K mainGlobals "LONGEST_NAME" = some (some (.int 6 t_LONGEST_NAME)))
    (vLONGEST_NUMBER : PySem.W.nsIn K mainGlobals "LONGEST_NUMBER" = some (some (.int 15 t_LONGEST_NUMBER)))
    (vMOST_FORMS : PySem.W.nsIn K mainGlobals "MOST_FORMS" = some (some (.int 12 t_MOST_FORMS)))
    (vMOST_DEEP : PySem.W.nsIn K mainGlobals "MOST_DEEP" = some (some (.int 6 t_MOST_DEEP)))
    (vMOST_SCOPE : PySem.W.nsIn K mainGlobals "MOST_SCOPE" = some (some (.int 6 t_MOST_SCOPE)))
    (vMOST_BOUND : PySem.W.nsIn K mainGlobals "MOST_BOUND" = some (some (.int 8 t_MOST_BOUND)))
    (vMOST_NAMES : PySem.W.nsIn K mainGlobals "MOST_NAMES" = some (some (.int 3 t_MOST_NAMES)))
    (zIndexError : PySem.W.nsIn K mainGlobals "IndexError" = some none)
    (zLookupError : PySem.W.nsIn K mainGlobals "LookupError" = some none)
    (zValueError : PySem.W.nsIn K mainGlobals "ValueError" = some none)
    (zabs : PySem.W.nsIn K mainGlobals "abs" = some none)
    (zall : PySem.W.nsIn K mainGlobals "all" = some none)
    (zbool : PySem.W.nsIn K mainGlobals "bool" = some none)
    (zint : PySem.W.nsIn K mainGlobals "int" = some none)
    (zisinstance : PySem.W.nsIn K mainGlobals "isinstance" = some none)
    (zlen : PySem.W.nsIn K mainGlobals "len" = some none)
    (zlist : PySem.W.nsIn K mainGlobals "list" = some none)
    (zrange : PySem.W.nsIn K mainGlobals "range" = some none)
    (zset : PySem.W.nsIn K mainGlobals "set" = some none)
    (zstr : PySem.W.nsIn K mainGlobals "str" = some none)
    (ztuple : PySem.W.nsIn K mainGlobals "tuple" = some none)
    (zzip : PySem.W.nsIn K mainGlobals "zip" = some none)
    : LamX.LawAtS l w K CX0 40 63 "_law_script" mg fa h := by
  have e := hfa.symm.trans (PySem.W.mg_of X G alaw)
  cases e
  have F_as_items := fun_mk (st := s_as_items) las_items cas_items kas_items
  have b_as_items := F_as_items.binds (ps := ["value"]) fun _ _ _ _ _ _ us hl => match us, hl with | [_], _ => rfl
  have F_is_name := fun_mk (st := s_is_name) lis_name cis_name kis_name
  have b_is_name := F_is_name.binds (ps := ["value"]) fun _ _ _ _ _ _ us hl => match us, hl with | [_], _ => rfl
  have F_is_number := fun_mk (st := s_is_number) lis_number cis_number kis_number
  have b_is_number := F_is_number.binds (ps := ["value", "least", "most"]) fun _ _ _ _ _ _ us hl => match us, hl with | [_, _, _], _ => rfl
  have F_number_in := fun_mk (st := s_number_in) lnumber_in cnumber_in knumber_in
  have b_number_in := F_number_in.binds (ps := ["word"]) fun _ _ _ _ _ _ us hl => match us, hl with | [_], _ => rfl
  have F_is_test := fun_mk (st := s_is_test) lis_test cis_test kis_test
  have b_is_test := F_is_test.binds (ps := ["value"]) fun _ _ _ _ _ _ us hl => match us, hl with | [_], _ => rfl
  have F_has_shape := fun_mk (st := s_has_shape) lhas_shape chas_shape khas_shape
  have b_has_shape := F_has_shape.binds (ps := ["value"]) fun _ _ _ _ _ _ us hl => match us, hl with | [_], _ => rfl
  have F_is_saying := fun_mk (st := s_is_saying) lis_saying cis_saying kis_saying
  have b_is_saying := F_is_saying.binds (ps := ["value", "scope", "deep"]) fun _ _ _ _ _ _ us hl => match us, hl with | [_, _, _], _ => rfl
  have F_is_item := fun_mk (st := s_is_item) lis_item cis_item kis_item
  have b_is_item := F_is_item.binds (ps := ["kind", "item", "scope", "inner", "deep"]) fun _ _ _ _ _ _ us hl => match us, hl with | [_, _, _, _, _], _ => rfl
  have F_sayings_in := fun_mk (st := s_sayings_in) lsayings_in csayings_in ksayings_in
  have b_sayings_in := F_sayings_in.binds (ps := ["saying"]) fun _ _ _ _ _ _ us hl => match us, hl with | [_], _ => rfl
  have F_table_uses := fun_mk (st := s_table_uses) ltable_uses ctable_uses ktable_uses
  have b_table_uses := F_table_uses.binds (ps := ["saying"]) fun _ _ _ _ _ _ us hl => match us, hl with | [_], _ => rfl
  have F_is_within_limits := fun_mk (st := s_is_within_limits) lis_within_limits cis_within_limits kis_within_limits
  have b_is_within_limits := F_is_within_limits.binds (ps := ["names", "saying"]) fun _ _ _ _ _ _ us hl => match us, hl with | [_, _], _ => rfl
  have F_words_of := fun_mk (st := s_words_of) lwords_of cwords_of kwords_of
  have b_words_of := F_words_of.binds (ps := ["items"]) fun _ _ _ _ _ _ us hl => match us, hl with | [_], _ => rfl
  have F_word_at := fun_mk (st := s_word_at) lword_at cword_at kword_at
  have b_word_at := F_word_at.binds (ps := ["words", "at"]) fun _ _ _ _ _ _ us hl => match us, hl with | [_, _], _ => rfl
  have F_read_saying := fun_mk (st := s_read_saying) lread_saying cread_saying kread_saying
  have b_read_saying := F_read_saying.binds (ps := ["words", "at", "deep"]) fun _ _ _ _ _ _ us hl => match us, hl with | [_, _, _], _ => rfl
  have F_read_item := fun_mk (st := s_read_item) lread_item cread_item kread_item
  have b_read_item := F_read_item.binds (ps := ["kind", "words", "at", "deep"]) fun _ _ _ _ _ _ us hl => match us, hl with | [_, _, _, _], _ => rfl
  have F_read_test := fun_mk (st := s_read_test) lread_test cread_test kread_test
  have b_read_test := F_read_test.binds (ps := ["words", "at"]) fun _ _ _ _ _ _ us hl => match us, hl with | [_, _], _ => rfl
  have F_are_names := fun_mk (st := s_are_names) lare_names care_names kare_names
  have b_are_names := F_are_names.binds (ps := ["value"]) fun _ _ _ _ _ _ us hl => match us, hl with | [_], _ => rfl
  have F__law_box := fun_mk (st := s__law_box) l_law_box c_law_box k_law_box
  have b__law_box := F__law_box.binds (ps := ["_law_script"]) fun _ _ _ _ _ _ us hl => match us, hl with | [_], _ => rfl
  have F__law_pull := fun_mk (st := s__law_pull) l_law_pull c_law_pull k_law_pull
  have b__law_pull := F__law_pull.binds (ps := ["_law_box_here", "_law_many"]) fun _ _ _ _ _ _ us hl => match us, hl with | [_, _], _ => rfl
  have F__law_of := fun_mk (st := s__law_of) l_law_of c_law_of k_law_of
  have b__law_of := F__law_of.binds (ps := ["_law_box_here", "_law_some"]) fun _ _ _ _ _ _ us hl => match us, hl with | [_, _], _ => rfl
  have F__law_words := fun_mk (st := s__law_words) l_law_words c_law_words k_law_words
  have b__law_words := F__law_words.binds (ps := ["_law_box_here", "_law_many"]) fun _ _ _ _ _ _ us hl => match us, hl with | [_, _], _ => rfl
  have F__law_same := fun_mk (st := s__law_same) l_law_same c_law_same k_law_same
  have b__law_same := F__law_same.binds (ps := ["_law_found", "_law_due"]) fun _ _ _ _ _ _ us hl => match us, hl with | [_, _], _ => rfl
  have F__law_field := fun_mk (st := s__law_field) l_law_field c_law_field k_law_field
  have b__law_field := F__law_field.binds (ps := ["_law_e"]) fun _ _ _ _ _ _ us hl => match us, hl with | [_], _ => rfl
  have F__law_got := fun_mk (st := s__law_got) l_law_got c_law_got k_law_got
  have b__law_got := F__law_got.binds (ps := ["_law_ask"]) fun _ _ _ _ _ _ us hl => match us, hl with | [_], _ => rfl
  have F_law := fun_mk (st := s_law) llaw claw klaw
  have F_copied : FunD K "copied" "copied" (defArgs s_copied) (defBody s_copied) (defScope s_copied) [.int 40] [] a_copied (PySem.W.fnOf "copied" "copied" (defArgs s_copied) (defBody s_copied) (defScope s_copied) (.ref a_dT) kV_copied dc_copied pm_copied an_copied cd_copied ct_copied) :=
    ⟨⟨oc_copied, od_copied, .ref a_dT, kV_copied, dc_copied, pm_copied, an_copied, cd_copied, ct_copied, sl_copied, rfl, lcopied, ccopied, .inr ⟨by simp, a_dT, _, _, _, rfl, dcopied, rfl, .cons ⟨t_dD, rfl⟩ .nil⟩, .inl rfl⟩, kcopied⟩
  obtain ⟨ds2, v2, b_copied⟩ := F_copied.binds1 (ps := ["value", "deep"]) 2 1 (by simp) rfl fun T kV doc pm an cdv ct us its hl hi => match us, its, hl, hi with | [_, _], [_], _, _ => ⟨_, rfl, rfl⟩
  cases v2
  obtain ⟨dsC, vD_copied, bD_copied⟩ := F_copied.binds1 (ps := ["value", "deep"]) 1 0 (by simp) rfl fun T kV doc pm an cdv ct us its hl hi => match us, its, hl, hi with | [_], [_], _, _ => ⟨_, rfl, rfl⟩
  have F_i_Question := fun_mk (st := s_Question___init__) li_Question ci_Question ki_Question
  have b_i_Question := F_i_Question.binds (ps := ["self", "names", "saying"]) fun _ _ _ _ _ _ us hl => match us, hl with | [_, _, _], _ => rfl
  have T : Txt K mg a_copied a_as_items a_is_name a_is_number a_number_in a_is_test a_has_shape a_is_saying a_is_item a_sayings_in a_table_uses a_is_within_limits a_words_of a_word_at a_read_saying a_read_item a_read_test a_are_names a__law_box a__law_pull a__law_of a__law_words a__law_same a__law_field a__law_got a_OnceError a_InvalidNames a_InvalidSaying a_InvalidText a_Missing a_NothingLeft a_Question a_SHAPES a_TESTS t_DEEPEST_COPY t_LETTERS t_DIGITS t_LONGEST_NAME t_LONGEST_NUMBER t_MOST_FORMS t_MOST_DEEP t_MOST_SCOPE t_MOST_BOUND t_MOST_NAMES := ⟨PySem.W.mg_of X G acopied, PySem.W.mg_of X G aas_items, PySem.W.mg_of X G ais_name, PySem.W.mg_of X G ais_number, PySem.W.mg_of X G anumber_in, PySem.W.mg_of X G ais_test, PySem.W.mg_of X G ahas_shape, PySem.W.mg_of X G ais_saying, PySem.W.mg_of X G ais_item, PySem.W.mg_of X G asayings_in, PySem.W.mg_of X G atable_uses, PySem.W.mg_of X G ais_within_limits, PySem.W.mg_of X G awords_of, PySem.W.mg_of X G aword_at, PySem.W.mg_of X G aread_saying, PySem.W.mg_of X G aread_item, PySem.W.mg_of X G aread_test, PySem.W.mg_of X G aare_names, PySem.W.mg_of X G a_law_box, PySem.W.mg_of X G a_law_pull, PySem.W.mg_of X G a_law_of, PySem.W.mg_of X G a_law_words, PySem.W.mg_of X G a_law_same, PySem.W.mg_of X G a_law_field, PySem.W.mg_of X G a_law_got, PySem.W.mg_of X G aOnceError, PySem.W.mg_of X G aInvalidNames, PySem.W.mg_of X G aInvalidSaying, PySem.W.mg_of X G aInvalidText, PySem.W.mg_of X G aMissing, PySem.W.mg_of X G aNothingLeft, PySem.W.mg_of X G aQuestion, PySem.W.mg_of X G aSHAPES, PySem.W.mg_of X G aTESTS, PySem.W.mg_of X G vDEEPEST_COPY, PySem.W.mg_of X G vLETTERS, PySem.W.mg_of X G vDIGITS, PySem.W.mg_of X G vLONGEST_NAME, PySem.W.mg_of X G vLONGEST_NUMBER, PySem.W.mg_of X G vMOST_FORMS, PySem.W.mg_of X G vMOST_DEEP, PySem.W.mg_of X G vMOST_SCOPE, PySem.W.mg_of X G vMOST_BOUND, PySem.W.mg_of X G vMOST_NAMES, PySem.W.mg_none_of X G zIndexError, PySem.W.mg_none_of X G zLookupError, PySem.W.mg_none_of X G zValueError, PySem.W.mg_none_of X G zabs, PySem.W.mg_none_of X G zall, PySem.W.mg_none_of X G zbool, PySem.W.mg_none_of X G zint, PySem.W.mg_none_of X G zisinstance, PySem.W.mg_none_of X G zlen, PySem.W.mg_none_of X G zlist, PySem.W.mg_none_of X G zrange, PySem.W.mg_none_of X G zset, PySem.W.mg_none_of X G zstr, PySem.W.mg_none_of X G ztuple, PySem.W.mg_none_of X G zzip⟩
  have QQ := qst_ok (K := K) yQ xi
  have S : ShQ K w a_SHAPES := ⟨fun p hp => by
    simp only [shapesQ, List.mem_cons, List.not_mem_nil, or_false] at hp
    rcases hp with rfl | rfl | rfl | rfl | rfl | rfl | rfl | rfl | rfl | rfl | rfl | rfl
    · exact ⟨_, kd_of (v := .ref s_0) lSH ySH yLO sn0 rfl, ktup_of st0 (by simp) (.cons ⟨_, rfl⟩ (.cons ⟨_, rfl⟩ .nil))⟩
    · exact ⟨_, kd_of (v := .ref s_1) lSH ySH yLO sn1 rfl, ktup_of st1 (by simp) (.cons ⟨_, rfl⟩ (.cons ⟨_, rfl⟩ (.cons ⟨_, rfl⟩ .nil)))⟩
    · exact ⟨_, kd_of (v := .ref s_2) lSH ySH yLO sn2 rfl, ktup_of st2 (by simp) (.cons ⟨_, rfl⟩ (.cons ⟨_, rfl⟩ .nil))⟩
    · exact ⟨_, kd_of (v := .ref s_3) lSH ySH yLO sn3 rfl, ktup_of st3 (by simp) (.cons ⟨_, rfl⟩ (.cons ⟨_, rfl⟩ .nil))⟩
    · exact ⟨_, kd_of (v := .ref s_4) lSH ySH yLO sn4 rfl, ktup_of st4 (by simp) (.cons ⟨_, rfl⟩ .nil)⟩
    · exact ⟨_, kd_of (v := .ref s_5) lSH ySH yLO sn5 rfl, ktup_of st5 (by simp) (.cons ⟨_, rfl⟩ (.cons ⟨_, rfl⟩ .nil))⟩
    · exact ⟨_, kd_of (v := .ref s_6) lSH ySH yLO sn6 rfl, ktup_of st6 (by simp) (.cons ⟨_, rfl⟩ (.cons ⟨_, rfl⟩ .nil))⟩
    · exact ⟨_, kd_of (v := .ref s_7) lSH ySH yLO sn7 rfl, ktup_of st7 (by simp) (.cons ⟨_, rfl⟩ (.cons ⟨_, rfl⟩ .nil))⟩
    · exact ⟨_, kd_of (v := .ref s_8) lSH ySH yLO sn8 rfl, ktup_of st8 (by simp) (.cons ⟨_, rfl⟩ (.cons ⟨_, rfl⟩ .nil))⟩
    · exact ⟨_, kd_of (v := .ref s_9) lSH ySH yLO sn9 rfl, ktup_of st9 (by simp) (.cons ⟨_, rfl⟩ (.cons ⟨_, rfl⟩ (.cons ⟨_, rfl⟩ .nil)))⟩
    · exact ⟨_, kd_of (v := .ref s_10) lSH ySH yLO sn10 rfl, ktup_of st10 (by simp) (.cons ⟨_, rfl⟩ (.cons ⟨_, rfl⟩ (.cons ⟨_, rfl⟩ (.cons ⟨_, rfl⟩ (.cons ⟨_, rfl⟩ .nil)))))⟩
    · exact ⟨_, kd_of (v := .ref s_11) lSH ySH yLO sn11 rfl, ktup_of st11 (by simp) (.cons ⟨_, rfl⟩ (.cons ⟨_, rfl⟩ (.cons ⟨_, rfl⟩ (.cons ⟨_, rfl⟩ (.cons ⟨_, rfl⟩ (.cons ⟨_, rfl⟩ .nil))))))⟩, ⟨esS, nS, _, lSH, ySH, yLO, snM, trivial⟩⟩
  have F_i_OnceError := fun_mk (st := s_OnceError___init__) li_OnceError ci_OnceError ki_OnceError
  have b_i_OnceError := F_i_OnceError.binds (ps := ["self", "code"]) fun _ _ _ _ _ _ us hl => match us, hl with | [_, _], _ => rfl
  have XC_OnceError : XCal K a_OnceError i_OnceError := ⟨sOnceError, rOnceError, fOnceError⟩
  have F_i_InvalidSaying := fun_mk (st := s_InvalidSaying___init__) li_InvalidSaying ci_InvalidSaying ki_InvalidSaying
  have b_i_InvalidSaying := F_i_InvalidSaying.binds (ps := ["self", "given"]) fun _ _ _ _ _ _ us hl => match us, hl with | [_, _], _ => rfl
  have X_InvalidSaying := xn_ok (K := K) ⟨_, _, F.excBase_ValueError, F.store_ValueError⟩ yInvalidSaying
  refine ⟨PySem.W.fnOf "law" "law" (defArgs s_law) (defBody s_law) (defScope s_law) .none kV_law dc_law pm_law an_law (.ref a_C) ct_law, [(a_C, a_T)], spLawT K a_T, fun p hp => by rw [List.mem_singleton.mp hp]; exact yat, fun p hp => by rw [List.mem_singleton.mp hp]; exact yno, fun p hp => by rw [List.mem_singleton.mp hp]; exact PySem.W.codeHd_of_K X ytab, fun s v => .of_eq rfl, fun H a ns hl _ hH hS => ⟨a, ns, rfl, hS, hl, hH _ List.mem_cons_self, fun _ => rfl⟩, fun base _ _ hTB => ?_⟩
  have TB := hTB _ List.mem_cons_self
  have C__law_pull := cal (ok__law_pull (P := l.prog) (w := w) (base := base) F__law_pull T) k_law_pull b__law_pull
  have C__law_of := cal (ok__law_of (P := l.prog) (w := w) (base := base) F__law_of T C__law_pull) k_law_of b__law_of
  have C__law_box := cal (ok__law_box (P := l.prog) (w := w) (base := base) F__law_box T) k_law_box b__law_box
  have C__law_words := cal (ok__law_words (P := l.prog) (w := w) (base := base) F__law_words T C__law_pull C__law_of) k_law_words b__law_words
  have C__law_same := cal (ok__law_same (P := l.prog) (w := w) (base := base) F__law_same T b__law_same 7) k_law_same b__law_same
  have C_nm := cal (ok_is_nm (P := l.prog) (w := w) (base := base) F_is_name T) kis_name b_is_name
  have C_num := cal (ok_is_num (P := l.prog) (w := w) (base := base) F_is_number T) kis_number b_is_number
  have C_shape := fun ρ => cal (ok_has_shape (ρ := ρ) (P := l.prog) (w := w) (base := base) F_has_shape T S) khas_shape b_has_shape
  have C_test := fun ρ => cal (ok_is_test (ρ := ρ) (P := l.prog) (w := w) (base := base) F_is_test T C_num) kis_test b_is_test
  have C_it := cal (none_of (P := l.prog) (w := w) (base := base) (k := 1) (f := a_is_item) (F := fun _ _ _ => False) (ps := ["kind", "item", "scope", "inner", "deep"]) (n := 5) (mg := mg) (fd := PySem.W.fnOf "is_item" "is_item" (defArgs s_is_item) (defBody s_is_item) (defScope s_is_item) .none kV_is_item dc_is_item pm_is_item an_is_item cd_is_item ct_is_item) fun _ _ _ h => h) kis_item b_is_item
  have C_s0 := fun ρ => cal (ok_saying0 (ρ := ρ) (P := l.prog) (w := w) (base := base) F_is_saying T S (C_shape ρ) C_it) kis_saying b_is_saying
  have C_i0 := fun ρ (R : Rho ρ) => cal (ok_is_item (P := l.prog) (w := w) (base := base) R F_is_item T (by decide) C_nm (C_s0 ρ) (C_test ρ) C_num) kis_item b_is_item
  have C_s1 := fun ρ (R : Rho ρ) => cal (ok_saying (P := l.prog) (w := w) (base := base) F_is_saying T S (by decide) (C_shape ρ) (C_i0 ρ R)) kis_saying b_is_saying
  have C_i1 := fun ρ (R : Rho ρ) => cal (ok_is_item (P := l.prog) (w := w) (base := base) R F_is_item T (by decide) C_nm (C_s1 ρ R) (C_test ρ) C_num) kis_item b_is_item
  have C_s2 := fun ρ (R : Rho ρ) => cal (ok_saying (P := l.prog) (w := w) (base := base) F_is_saying T S (by decide) (C_shape ρ) (C_i1 ρ R)) kis_saying b_is_saying
  have C_i2 := fun ρ (R : Rho ρ) => cal (ok_is_item (P := l.prog) (w := w) (base := base) R F_is_item T (by decide) C_nm (C_s2 ρ R) (C_test ρ) C_num) kis_item b_is_item
  have C_s3 := fun ρ (R : Rho ρ) => cal (ok_saying (P := l.prog) (w := w) (base := base) F_is_saying T S (by decide) (C_shape ρ) (C_i2 ρ R)) kis_saying b_is_saying
  have C_i3 := fun ρ (R : Rho ρ) => cal (ok_is_item (P := l.prog) (w := w) (base := base) R F_is_item T (by decide) C_nm (C_s3 ρ R) (C_test ρ) C_num) kis_item b_is_item
  have C_s4 := fun ρ (R : Rho ρ) => cal (ok_saying (P := l.prog) (w := w) (base := base) F_is_saying T S (by decide) (C_shape ρ) (C_i3 ρ R)) kis_saying b_is_saying
  have C_i4 := fun ρ (R : Rho ρ) => cal (ok_is_item (P := l.prog) (w := w) (base := base) R F_is_item T (by decide) C_nm (C_s4 ρ R) (C_test ρ) C_num) kis_item b_is_item
  have C_s5 := fun ρ (R : Rho ρ) => cal (ok_saying (P := l.prog) (w := w) (base := base) F_is_saying T S (by decide) (C_shape ρ) (C_i4 ρ R)) kis_saying b_is_saying
  have C_i5 := fun ρ (R : Rho ρ) => cal (ok_is_item (P := l.prog) (w := w) (base := base) R F_is_item T (by decide) C_nm (C_s5 ρ R) (C_test ρ) C_num) kis_item b_is_item
  have C_s6 := fun ρ (R : Rho ρ) => cal (ok_saying (P := l.prog) (w := w) (base := base) F_is_saying T S (by decide) (C_shape ρ) (C_i5 ρ R)) kis_saying b_is_saying
  have C_f0 := fun ρ => cal (none_of (P := l.prog) (w := w) (base := base) (k := 0) (f := a_sayings_in) (F := fForms ρ 0) (ps := ["saying"]) (n := 1) (mg := mg) (fd := PySem.W.fnOf "sayings_in" "sayings_in" (defArgs s_sayings_in) (defBody s_sayings_in) (defScope s_sayings_in) .none kV_sayings_in dc_sayings_in pm_sayings_in an_sayings_in cd_sayings_in ct_sayings_in) fun _ _ _ ⟨v, fs, _, _, h, _⟩ => by cases h) ksayings_in b_sayings_in
  have C_f1 := fun ρ => cal (ok_sayings_in (ρ := ρ) (P := l.prog) (w := w) (base := base) F_sayings_in T S (C_f0 ρ)) ksayings_in b_sayings_in
  have C_f2 := fun ρ => cal (ok_sayings_in (ρ := ρ) (P := l.prog) (w := w) (base := base) F_sayings_in T S (C_f1 ρ)) ksayings_in b_sayings_in
  have C_f3 := fun ρ => cal (ok_sayings_in (ρ := ρ) (P := l.prog) (w := w) (base := base) F_sayings_in T S (C_f2 ρ)) ksayings_in b_sayings_in
  have C_f4 := fun ρ => cal (ok_sayings_in (ρ := ρ) (P := l.prog) (w := w) (base := base) F_sayings_in T S (C_f3 ρ)) ksayings_in b_sayings_in
  have C_f5 := fun ρ => cal (ok_sayings_in (ρ := ρ) (P := l.prog) (w := w) (base := base) F_sayings_in T S (C_f4 ρ)) ksayings_in b_sayings_in
  have C_f6 := fun ρ => cal (ok_sayings_in (ρ := ρ) (P := l.prog) (w := w) (base := base) F_sayings_in T S (C_f5 ρ)) ksayings_in b_sayings_in
  have C_f7 := fun ρ => cal (ok_sayings_in (ρ := ρ) (P := l.prog) (w := w) (base := base) F_sayings_in T S (C_f6 ρ)) ksayings_in b_sayings_in
  have C_u := fun ρ => cal (ok_table_uses (P := l.prog) (w := w) (base := base) F_table_uses T (C_f7 ρ)) ktable_uses b_table_uses
  have C_w := fun ρ (R : Rho ρ) => cal (ok_within (P := l.prog) (w := w) (base := base) (by decide) F_is_within_limits T (C_s6 ρ R) (C_f7 ρ) (C_u ρ)) kis_within_limits b_is_within_limits
  have C_are := cal (ok_are_names (P := l.prog) (w := w) (base := base) F_are_names T C_nm) kare_names b_are_names
  have Z_InvalidSaying : Rz l.prog w K mg base 7 "InvalidSaying" a_InvalidSaying ["given", "code"] (fGiven "InvalidSaying") := ⟨⟨⟨i_InvalidSaying, _, _, X_InvalidSaying.mks, fn_up (ok_InvalidSaying___init__ (P := l.prog) (w := w) (base := base) F_i_InvalidSaying T XC_OnceError F_i_OnceError b_i_OnceError F_copied b_copied vD_copied bD_copied), b_i_InvalidSaying⟩, T.m_InvalidSaying, fun f hf => X_InvalidSaying.st f ((by decide : ∀ f, f ∈ (["given", "code"] : List Str) → f ∈ fieldN) f hf)⟩, X_InvalidSaying.rs⟩
  have G_Q := anyRho fun ρ R => ok_questS (P := l.prog) (w := w) (base := base) R F_i_Question T C_are (C_w ρ R) (C_f7 ρ) Z_InvalidSaying
  have Z_f := ok__law_field (P := l.prog) (w := w) (base := base) F__law_field T
  exact ok_law F_law rfl TB T QQ Z_f k_law_field b__law_field b__law_got F__law_got C__law_box C__law_pull C__law_of C__law_words C__law_same X_InvalidSaying.hn G_Q b_i_Question
end KL

open PySem PySem.W PyProof.Rows
set_option maxRecDepth 100000 in
set_option maxHeartbeats 0 in
theorem PySem.Challenge.cw_oncethrough_k10_sayings_refused_holds : PySem.Challenge.rw_oncethrough_k10_sayings_refused.Holds := by
  w_on; o_law; k_head; (case hw => w_witness2)
  k_fill
  refine LamX.walk_ofTs (l := PySem.Challenge.rw_oncethrough_k10_sayings_refused) (n := 63) (k := 40) (x := "_law_script") (CX := fun _ => L2.CX0) rfl (by decide) rfl ⟨rfl, by decide, by decide⟩ (fun w h Y => PySem.W.km_in_of Y) ?F (fun _ _ _ _ _ h => h)
  case F =>
    intro w mg fa h Y KX G hmg
    refine' KL.all_mk KX G hmg ?acopied ?aOnceError ?aInvalidNames ?aInvalidSaying ?aInvalidText ?aMissing ?aNothingLeft ?aQuestion ?aSHAPES ?aTESTS ?aas_items ?las_items ?cas_items ?kas_items ?ais_name ?lis_name ?cis_name ?kis_name ?ais_number ?lis_number ?cis_number ?kis_number ?anumber_in ?lnumber_in ?cnumber_in ?knumber_in ?ais_test ?lis_test ?cis_test ?kis_test ?ahas_shape ?lhas_shape ?chas_shape ?khas_shape ?ais_saying ?lis_saying ?cis_saying ?kis_saying ?ais_item ?lis_item ?cis_item ?kis_item ?asayings_in ?lsayings_in ?csayings_in ?ksayings_in ?atable_uses ?ltable_uses ?ctable_uses ?ktable_uses ?ais_within_limits ?lis_within_limits ?cis_within_limits ?kis_within_limits ?awords_of ?lwords_of ?cwords_of ?kwords_of ?aword_at ?lword_at ?cword_at ?kword_at ?aread_saying ?lread_saying ?cread_saying ?kread_saying ?aread_item ?lread_item ?cread_item ?kread_item ?aread_test ?lread_test ?cread_test ?kread_test ?aare_names ?lare_names ?care_names ?kare_names ?a_law_box ?l_law_box ?c_law_box ?k_law_box ?a_law_pull ?l_law_pull ?c_law_pull ?k_law_pull ?a_law_of ?l_law_of ?c_law_of ?k_law_of ?a_law_words ?l_law_words ?c_law_words ?k_law_words ?a_law_same ?l_law_same ?c_law_same ?k_law_same ?a_law_field ?l_law_field ?c_law_field ?k_law_field ?a_law_got ?l_law_got ?c_law_got ?k_law_got ?alaw ?llaw ?claw ?klaw ?lcopied ?dcopied ?ccopied ?kcopied ?xi ?li_Question ?ci_Question ?ki_Question ?yQ ?lSH ?sn0 ?st0 ?sn1 ?st1 ?sn2 ?st2 ?sn3 ?st3 ?sn4 ?st4 ?sn5 ?st5 ?sn6 ?st6 ?sn7 ?st7 ?sn8 ?st8 ?sn9 ?st9 ?sn10 ?st10 ?sn11 ?st11 ?snM ?ySH ?yLO ?sOnceError ?rOnceError ?fOnceError ?li_OnceError ?ci_OnceError ?ki_OnceError ?hInvalidSaying ?li_InvalidSaying ?ci_InvalidSaying ?ki_InvalidSaying ?yInvalidSaying ?lC ?tC ?ytab ?yno ?yat ?vDEEPEST_COPY ?vLETTERS ?vDIGITS ?vLONGEST_NAME ?vLONGEST_NUMBER ?vMOST_FORMS ?vMOST_DEEP ?vMOST_SCOPE ?vMOST_BOUND ?vMOST_NAMES ?zIndexError ?zLookupError ?zValueError ?zabs ?zall ?zbool ?zint ?zisinstance ?zlen ?zlist ?zrange ?zset ?zstr ?ztuple ?zzip
    (case acopied => k_is)
    (case aOnceError => k_is)
    (case aInvalidNames => k_is)
    (case aInvalidSaying => k_is)
    (case aInvalidText => k_is)
    (case aMissing => k_is)
    (case aNothingLeft => k_is)
    (case aQuestion => k_is)
    (case aSHAPES => k_is)
    (case aTESTS => k_is)
    (case aas_items => k_is)
    (case las_items => k_is)
    (case cas_items => k_is)
    (case kas_items => k_is)
    (case ais_name => k_is)
    (case lis_name => k_is)
    (case cis_name => k_is)
    (case kis_name => k_is)
    (case ais_number => k_is)
    (case lis_number => k_is)
    (case cis_number => k_is)
    (case kis_number => k_is)
    (case anumber_in => k_is)
    (case lnumber_in => k_is)
    (case cnumber_in => k_is)
    (case knumber_in => k_is)
    (case ais_test => k_is)
    (case lis_test => k_is)
    (case cis_test => k_is)
    (case kis_test => k_is)
    (case ahas_shape => k_is)
    (case lhas_shape => k_is)
    (case chas_shape => k_is)
    (case khas_shape => k_is)
    (case ais_saying => k_is)
    (case lis_saying => k_is)
    (case cis_saying => k_is)
    (case kis_saying => k_is)
    (case ais_item => k_is)
    (case lis_item => k_is)
    (case cis_item => k_is)
    (case kis_item => k_is)
    (case asayings_in => k_is)
    (case lsayings_in => k_is)
    (case csayings_in => k_is)
    (case ksayings_in => k_is)
    (case atable_uses => k_is)
    (case ltable_uses => k_is)
    (case ctable_uses => k_is)
    (case ktable_uses => k_is)
    (case ais_within_limits => k_is)
    (case lis_within_limits => k_is)
    (case cis_within_limits => k_is)
    (case kis_within_limits => k_is)
    (case awords_of => k_is)
    (case lwords_of => k_is)
    (case cwords_of => k_is)
    (case kwords_of => k_is)
    (case aword_at => k_is)
    (case lword_at => k_is)
    (case cword_at => k_is)
    (case kword_at => k_is)
    (case aread_saying => k_is)
    (case lread_saying => k_is)
    (case cread_saying => k_is)
    (case kread_saying => k_is)
    (case aread_item => k_is)
    (case lread_item => k_is)
    (case cread_item => k_is)
    (case kread_item => k_is)
    (case aread_test => k_is)
    (case lread_test => k_is)
    (case cread_test => k_is)
    (case kread_test => k_is)
    (case aare_names => k_is)
    (case lare_names => k_is)
    (case care_names => k_is)
    (case kare_names => k_is)
    (case a_law_box => k_is)
    (case l_law_box => k_is)
    (case c_law_box => k_is)
    (case k_law_box => k_is)
    (case a_law_pull => k_is)
    (case l_law_pull => k_is)
    (case c_law_pull => k_is)
    (case k_law_pull => k_is)
    (case a_law_of => k_is)
    (case l_law_of => k_is)
    (case c_law_of => k_is)
    (case k_law_of => k_is)
    (case a_law_words => k_is)
    (case l_law_words => k_is)
    (case c_law_words => k_is)
    (case k_law_words => k_is)
    (case a_law_same => k_is)
    (case l_law_same => k_is)
    (case c_law_same => k_is)
    (case k_law_same => k_is)
    (case a_law_field => k_is)
    (case l_law_field => k_is)
    (case c_law_field => k_is)
    (case k_law_field => k_is)
    (case a_law_got => k_is)
    (case l_law_got => k_is)
    (case c_law_got => k_is)
    (case k_law_got => k_is)
    (case alaw => k_is)
    (case llaw => k_is)
    (case claw => k_is)
    (case klaw => k_is)
    (case lcopied => k_is)
    (case dcopied => k_is)
    (case ccopied => k_is)
    (case kcopied => k_is)
    (case xi => k_is)
    (case li_Question => k_is)
    (case ci_Question => k_is)
    (case ki_Question => k_is)
    (case lSH => k_is)
    (case sn0 => k_is)
    (case st0 => k_is)
    (case sn1 => k_is)
    (case st1 => k_is)
    (case sn2 => k_is)
    (case st2 => k_is)
    (case sn3 => k_is)
    (case st3 => k_is)
    (case sn4 => k_is)
    (case st4 => k_is)
    (case sn5 => k_is)
    (case st5 => k_is)
    (case sn6 => k_is)
    (case st6 => k_is)
    (case sn7 => k_is)
    (case st7 => k_is)
    (case sn8 => k_is)
    (case st8 => k_is)
    (case sn9 => k_is)
    (case st9 => k_is)
    (case sn10 => k_is)
    (case st10 => k_is)
    (case sn11 => k_is)
    (case st11 => k_is)
    (case snM => k_is)
    (case sOnceError => k_is)
    (case rOnceError => k_is)
    (case fOnceError => k_is)
    (case li_OnceError => k_is)
    (case ci_OnceError => k_is)
    (case ki_OnceError => k_is)
    (case hInvalidSaying => k_is)
    (case li_InvalidSaying => k_is)
    (case ci_InvalidSaying => k_is)
    (case ki_InvalidSaying => k_is)
    (case lC => k_is)
    (case vDEEPEST_COPY => k_is)
    (case vLETTERS => k_is)
    (case vDIGITS => k_is)
    (case vLONGEST_NAME => k_is)
    (case vLONGEST_NUMBER => k_is)
    (case vMOST_FORMS => k_is)
    (case vMOST_DEEP => k_is)
    (case vMOST_SCOPE => k_is)
    (case vMOST_BOUND => k_is)
    (case vMOST_NAMES => k_is)
    (case zIndexError => k_is)
    (case zLookupError => k_is)
    (case zValueError => k_is)
    (case zabs => k_is)
    (case zall => k_is)
    (case zbool => k_is)
    (case zint => k_is)
    (case zisinstance => k_is)
    (case zlen => k_is)
    (case zlist => k_is)
    (case zrange => k_is)
    (case zset => k_is)
    (case zstr => k_is)
    (case ztuple => k_is)
    (case zzip => k_is)
    (case yQ => kernel_rfl)
    (case ySH => k_keys)
    (case yLO => rfl)
    (case yInvalidSaying => kernel_rfl)
    (case tC => rfl)
    (case ytab => kernel_rfl)
    (case yno => kernel_rfl)
    (case yat => exact PySem.W.km_tabs_of Y _ (by k_mem))
