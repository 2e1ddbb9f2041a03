import PyProof.Rows.All
import Wide.All
import OpenK.AllK
import Wide.FinOn
import HandS.ForMost
import HandS.IsInst
import HandS.Zip
import PySem.Challenge.RW_oncethrough_k01_names_and_numbers
set_option Elab.async false
set_option linter.all false
set_option maxRecDepth 100000
set_option maxHeartbeats 2000000
/-! Data as trees, what denotes them, and a logic of evaluation over data alone. -/
namespace DL
open PySem PySem.Spec PyProof.Rows L2 RZ

inductive D where
  | non
  | bl (b : Bool)
  | int (i : Int)
  | str (x : Str)
  | ty (n : String)
  | obj (a : Addr)
  | lst (ds : List D)
  | tup (ds : List D)
  | ins (C : Addr) (ns : List Str) (ds : List D)
  | dK (ks : List Key) (ds : List D)

mutual
inductive Den (K : PySem.W.Frag) (H : Hp) : D → V → Prop
  | non : Den K H .non .non
  | bl (b : Bool) : Den K H (.bl b) (.bl b)
  | int (i : Int) : Den K H (.int i) (.int i)
  | str (x : Str) : Den K H (.str x) (.str x)
  | ty (n : String) : Den K H (.ty n) (.ty n)
  | obj (a : Addr) : Den K H (.obj a) (.ref a)
  | lst {a : Addr} {xs : List V} {ds : List D} : H a = some (.lst xs) → DenAll K H ds xs → Den K H (.lst ds) (.ref a)
  | tup {a : Addr} {xs : List V} {ds : List D} : SqT K H a xs → DenAll K H ds xs → Den K H (.tup ds) (.ref a)
  | ins {a C dx : Addr} {ns : List Str} {vs : List V} {ds : List D} : H a = some (.ins C dx (ns.zip vs)) → ns.length = vs.length → DenAll K H ds vs → Den K H (.ins C ns ds) (.ref a)
  | dK {a : Addr} {ks : List Key} {vs : List V} {ds : List D} : H a = some (.dK (ks.zip vs)) → ks.length = vs.length → DenAll K H ds vs → Den K H (.dK ks ds) (.ref a)
inductive DenAll (K : PySem.W.Frag) (H : Hp) : List D → List V → Prop
  | nil : DenAll K H [] []
  | cons {v : V} {vs : List V} {d : D} {ds : List D} : Den K H d v → DenAll K H ds vs → DenAll K H (d :: ds) (v :: vs)
end

theorem SqL.sub {K : PySem.W.Frag} {H H' : Hp} (e : ∀ a o, H a = some o → H' a = some o) {a : Addr} {xs : List V} (h : SqL K H a xs) : SqL K H' a xs := by
  rcases h with (h | ⟨o, h⟩) | h
  · exact .inl (.inl (e _ _ h))
  · exact .inl (.inr ⟨o, e _ _ h⟩)
  · exact .inr h
theorem SqT.sub {K : PySem.W.Frag} {H H' : Hp} (e : ∀ a o, H a = some o → H' a = some o) {a : Addr} {xs : List V} (h : SqT K H a xs) : SqT K H' a xs := by
  rcases h with (h | ⟨o, h⟩) | h
  · exact .inl (.inl (e _ _ h))
  · exact .inl (.inr ⟨o, e _ _ h⟩)
  · exact .inr h
mutual
theorem Den.sub {K : PySem.W.Frag} {H H' : Hp} (e : ∀ a o, H a = some o → H' a = some o) : ∀ (d : D) (v : V), Den K H d v → Den K H' d v
  | .non, _, h => by cases h; exact .non
  | .bl _, _, h => by cases h; exact .bl _
  | .int _, _, h => by cases h; exact .int _
  | .str _, _, h => by cases h; exact .str _
  | .ty _, _, h => by cases h; exact .ty _
  | .obj _, _, h => by cases h; exact .obj _
  | .lst ds, _, h => by
    cases h with
    | lst h1 h2 => exact .lst (e _ _ h1) (DenAll.sub e ds _ h2)
  | .tup ds, _, h => by
    cases h with
    | tup h1 h2 => exact .tup (SqT.sub e h1) (DenAll.sub e ds _ h2)
  | .ins C ns ds, _, h => by
    cases h with
    | ins h1 h2 h3 => exact .ins (e _ _ h1) h2 (DenAll.sub e ds _ h3)
  | .dK ks ds, _, h => by
    cases h with
    | dK h1 h2 h3 => exact .dK (e _ _ h1) h2 (DenAll.sub e ds _ h3)
theorem DenAll.sub {K : PySem.W.Frag} {H H' : Hp} (e : ∀ a o, H a = some o → H' a = some o) : ∀ (ds : List D) (vs : List V), DenAll K H ds vs → DenAll K H' ds vs
  | [], _, h => by cases h; exact .nil
  | d :: ds, _, h => by
    cases h with
    | cons h1 h2 => exact .cons (Den.sub e d _ h1) (DenAll.sub e ds _ h2)
end
theorem DenAll.length {K : PySem.W.Frag} {H : Hp} : ∀ {ds : List D} {vs : List V}, DenAll K H ds vs → ds.length = vs.length
  | [], _, h => by cases h; rfl
  | d :: ds, _, h => by
    cases h with
    | cons h1 h2 => rw [List.length_cons, List.length_cons, DenAll.length h2]
theorem DenAll.get {K : PySem.W.Frag} {H : Hp} : ∀ {ds : List D} {vs : List V} {i : Nat} {d : D}, DenAll K H ds vs → ds[i]? = some d → ∃ v, vs[i]? = some v ∧ Den K H d v
  | [], _, _, _, _, e => by simp at e
  | d :: ds, _, 0, _, h, e => by
    cases h with
    | cons h1 h2 =>
      have e' : d = _ := Option.some.inj e
      subst e'
      exact ⟨_, rfl, h1⟩
  | d :: ds, _, i + 1, _, h, e => by
    cases h with
    | cons h1 h2 => exact DenAll.get (i := i) h2 e
theorem DenAll.getV {K : PySem.W.Frag} {H : Hp} : ∀ {ds : List D} {vs : List V} {i : Nat} {v : V}, DenAll K H ds vs → vs[i]? = some v → ∃ d, ds[i]? = some d ∧ Den K H d v
  | [], _, _, _, h, e => by cases h; simp at e
  | d :: ds, _, 0, _, h, e => by
    cases h with
    | cons h1 h2 =>
      have e' := Option.some.inj e
      subst e'
      exact ⟨_, rfl, h1⟩
  | d :: ds, _, i + 1, _, h, e => by
    cases h with
    | cons h1 h2 => exact DenAll.getV (i := i) h2 e
theorem DenAll.snoc {K : PySem.W.Frag} {H : Hp} : ∀ {ds : List D} {vs : List V} {d : D} {v : V}, DenAll K H ds vs → Den K H d v → DenAll K H (ds ++ [d]) (vs ++ [v])
  | [], _, _, _, h, h' => by cases h; exact .cons h' .nil
  | d :: ds, _, _, _, h, h' => by
    cases h with
    | cons h1 h2 => exact .cons h1 (DenAll.snoc h2 h')
theorem DenAll.app {K : PySem.W.Frag} {H : Hp} : ∀ {ds : List D} {vs : List V} {es : List D} {ws : List V}, DenAll K H ds vs → DenAll K H es ws → DenAll K H (ds ++ es) (vs ++ ws)
  | [], _, _, _, h, h' => by cases h; exact h'
  | d :: ds, _, _, _, h, h' => by
    cases h with
    | cons h1 h2 => exact .cons h1 (DenAll.app h2 h')

/-! ### what is hidden: objects that may still change -/
def hid (M : List Addr) (H : Hp) : Hp := fun a => if a ∈ M then none else H a
theorem hid_get {M : List Addr} {H : Hp} {a : Addr} {o : HO} (h : hid M H a = some o) : a ∉ M ∧ H a = some o := by
  unfold hid at h
  by_cases e : a ∈ M
  · rw [if_pos e] at h; cases h
  · rw [if_neg e] at h; exact ⟨e, h⟩
theorem hid_of {M : List Addr} {H : Hp} {a : Addr} {o : HO} (n : a ∉ M) (h : H a = some o) : hid M H a = some o := by
  unfold hid
  rw [if_neg n]; exact h
theorem hid_sub {M : List Addr} {H : Hp} : ∀ a o, hid M H a = some o → H a = some o := fun _ _ h => (hid_get h).2
theorem Den.un {K : PySem.W.Frag} {M : List Addr} {H : Hp} {d : D} {v : V} (h : Den K (hid M H) d v) : Den K H d v := Den.sub hid_sub d v h

/-- the box that a law pulls from: its address, that of the list of the script's ints -/
structure Bx where
  b : Addr
  l : Addr
def BoxOk (K : PySem.W.Frag) (B : Bx) (H : Hp) : Prop :=
  ∃ (ns : List Int) (i : Nat) (r m c : Int), H B.b = some (.lst [.ref B.l, .int i, .int r, .int m, .int c]) ∧ B.l ≠ B.b ∧ H B.l = some (.lst (ns.map V.int)) ∧ ns.length ≤ 63 ∧ 0 ≤ r ∧ 0 ≤ m ∧ m < 2147483587
/-- nothing but the box has changed -/
def R (K : PySem.W.Frag) (B : Bx) (H H' : Hp) : Prop := BoxOk K B H' ∧ ∀ a o, H a = some o → a ≠ B.b → H' a = some o
structure Good (K : PySem.W.Frag) (B : Bx) (M : List Addr) (H : Hp) : Prop where
  mem : B.b ∈ M
  meml : B.l ∈ M
  box : BoxOk K B H
  there : ∀ a ∈ M, H a ≠ none
section
variable {K : PySem.W.Frag} {B : Bx} {M : List Addr} {H H1 H2 : Hp}
theorem R.refl (h : BoxOk K B H) : R K B H H := ⟨h, fun _ _ e _ => e⟩
theorem Good.refl (g : Good K B M H) : R K B H H := R.refl g.box
theorem R.trans (r : R K B H H1) (q : R K B H1 H2) : R K B H H2 := ⟨q.1, fun a o e n => q.2 a o (r.2 a o e n) n⟩
theorem Good.r (g : Good K B M H) (r : R K B H H1) : Good K B M H1 := ⟨g.mem, g.meml, r.1, fun a ha => by
  by_cases e : a = B.b
  · subst e
    obtain ⟨_, _, _, _, _, h, _⟩ := r.1
    rw [h]; exact fun z => by cases z
  · cases q : H a with
    | none => exact absurd q (g.there a ha)
    | some o =>
      rw [r.2 a o q e]
      exact fun z => by cases z⟩
theorem Good.sub (g : Good K B M H) (r : R K B H H1) : ∀ a o, hid M H a = some o → hid M H1 a = some o := fun a o e => by
  obtain ⟨n, q⟩ := hid_get e
  exact hid_of n (r.2 a o q fun z => n (by rw [z]; exact g.mem))
theorem Good.den (g : Good K B M H) (r : R K B H H1) {d : D} {v : V} (h : Den K (hid M H) d v) : Den K (hid M H1) d v := Den.sub (g.sub r) d v h
theorem Good.dens (g : Good K B M H) (r : R K B H H1) {ds : List D} {vs : List V} (h : DenAll K (hid M H) ds vs) : DenAll K (hid M H1) ds vs := DenAll.sub (g.sub r) ds vs h
theorem Good.fresh (g : Good K B M H) {p : Addr} (h : H p = none) : p ∉ M := fun z => g.there p z h
theorem Good.fresh_b (g : Good K B M H) {p : Addr} (h : H p = none) : p ≠ B.b := fun z => g.fresh h (by rw [z]; exact g.mem)
theorem Good.fresh_l (g : Good K B M H) {p : Addr} (h : H p = none) : p ≠ B.l := fun z => g.fresh h (by rw [z]; exact g.meml)
theorem BoxOk.sub (x : BoxOk K B H) (e : ∀ a o, H a = some o → H1 a = some o) : BoxOk K B H1 := by
  obtain ⟨ns, i, r, m, c, h, n, hs, q⟩ := x
  exact ⟨ns, i, r, m, c, e _ _ h, n, e _ _ hs, q⟩
theorem Good.new (g : Good K B M H) {p : Addr} {o : HO} (h : H p = none) : R K B H (upd H p o) := by
  have e : ∀ a u, H a = some u → upd H p o a = some u := fun a u q => by rw [upd_ne (ne_of_none q h)]; exact q
  exact ⟨g.box.sub e, fun a u q _ => e a u q⟩
/-- an owned object, not the box, is changed -/
theorem BoxOk.put (g : BoxOk K B H) {p : Addr} {o : HO} (hp : p ≠ B.b) (hl : p ≠ B.l) : BoxOk K B (upd H p o) := by
  obtain ⟨ns, i, r, m, c, h, n, hs, q⟩ := g
  exact ⟨ns, i, r, m, c, by rw [upd_ne hp.symm]; exact h, n, by rw [upd_ne hl.symm]; exact hs, q⟩
/-- one more owned object -/
theorem Good.own (g : Good K B M H) {p : Addr} {o : HO} (h : H p = none) : Good K B (p :: M) (upd H p o) :=
  ⟨List.mem_cons_of_mem _ g.mem, List.mem_cons_of_mem _ g.meml, (g.new h).1, fun a ha => by
    rcases List.mem_cons.mp ha with e | ha
    · rw [e, upd_same]; exact fun z => by cases z
    · rw [upd_ne (fun z => g.there a ha (by rw [z]; exact h))]; exact g.there a ha⟩
theorem Good.putOwn (g : Good K B M H) {p : Addr} {o : HO} (hp : p ≠ B.b) (hl : p ≠ B.l) : Good K B M (upd H p o) :=
  ⟨g.mem, g.meml, g.box.put hp hl, fun a ha => by
    by_cases e : a = p
    · rw [e, upd_same]; exact fun z => by cases z
    · rw [upd_ne e]; exact g.there a ha⟩
theorem hid_put {p : Addr} {o : HO} (hp : p ∈ M) : hid M (upd H p o) = hid M H := by
  funext a
  unfold hid
  by_cases e : a ∈ M
  · rw [if_pos e, if_pos e]
  · rw [if_neg e, if_neg e, upd_ne (fun z => e (by rw [z]; exact hp))]
/-- what was denoted ahead of a new owned object -/
theorem hid_own {p : Addr} {o : HO} (h : H p = none) : ∀ a u, hid M H a = some u → hid (p :: M) (upd H p o) a = some u := fun a u e => by
  obtain ⟨n, q⟩ := hid_get e
  have na : a ≠ p := ne_of_none q h
  refine hid_of (fun z => ?_) (by rw [upd_ne na]; exact q)
  rcases List.mem_cons.mp z with z | z
  · exact na z
  · exact n z
theorem hid_less {p : Addr} : ∀ a u, hid (p :: M) H a = some u → hid M H a = some u := fun a u e => by
  obtain ⟨n, q⟩ := hid_get e
  exact hid_of (fun z => n (List.mem_cons_of_mem _ z)) q
end

/-! ### environments over data -/
abbrev Gam := List (Option D)
structure EnvOk (K : PySem.W.Frag) (M : List Addr) (H : Hp) (σ : L2.St) (Γ : Gam) : Prop where
  len : σ.length = Γ.length
  at_ : ∀ (i : Nat) (d : D), Γ[i]? = some (some d) → ∃ v, σ[i]? = some (some v) ∧ Den K (hid M H) d v
section
variable {K : PySem.W.Frag} {B : Bx} {M : List Addr} {H H1 H2 : Hp} {σ : L2.St} {Γ : Gam}
theorem EnvOk.r (x : EnvOk K M H σ Γ) (g : Good K B M H) (r : R K B H H1) : EnvOk K M H1 σ Γ :=
  ⟨x.len, fun i d e => let ⟨v, h1, h2⟩ := x.at_ i d e; ⟨v, h1, g.den r h2⟩⟩
theorem EnvOk.set (x : EnvOk K M H σ Γ) {i : Nat} {d : D} {v : V} (h : Den K (hid M H) d v) : EnvOk K M H (σ.set i (some v)) (Γ.set i (some d)) := by
  refine ⟨by rw [List.length_set, List.length_set]; exact x.len, fun j e q => ?_⟩
  by_cases hj : i = j
  · subst hj
    by_cases hi : i < Γ.length
    · rw [List.getElem?_set_self hi] at q
      have q' : d = e := Option.some.inj (Option.some.inj q)
      subst q'
      exact ⟨v, List.getElem?_set_self (by rw [x.len]; exact hi), h⟩
    · rw [List.getElem?_eq_none (by rw [List.length_set]; omega)] at q; cases q
  · rw [List.getElem?_set_ne hj] at q
    rw [List.getElem?_set_ne hj]
    exact x.at_ j e q
def wipeG (Γ : Gam) : List Nat → Gam
  | [] => Γ
  | v :: vs => (wipeG Γ vs).set v none
theorem EnvOk.wipe (x : EnvOk K M H σ Γ) : ∀ vs : List Nat, EnvOk K M H (L2.wipe σ vs) (wipeG Γ vs)
  | [] => x
  | v :: vs => by
    have ih := EnvOk.wipe x vs
    refine ⟨?_, fun j d q => ?_⟩
    · unfold L2.wipe wipeG
      rw [List.length_set, List.length_set]; exact ih.len
    · unfold wipeG at q
      unfold L2.wipe
      by_cases hj : v = j
      · subst hj
        by_cases hi : v < (wipeG Γ vs).length
        · rw [List.getElem?_set_self hi] at q; cases q
        · rw [List.getElem?_eq_none (by rw [List.length_set]; omega)] at q; cases q
      · rw [List.getElem?_set_ne hj] at q
        rw [List.getElem?_set_ne hj]
        exact ih.at_ j d q
end

/-! ### evaluation -/
section
variable (K : PySem.W.Frag) (B : Bx)
def Ev (te : TE) (Γ : Gam) (P : D → Prop) : Prop := ∀ (M : List Addr) (σ : L2.St) (H : Hp) (Q : VK), Good K B M H → EnvOk K M H σ Γ →
  (∀ v H' d, R K B H H' → P d → Den K (hid M H') d v → Q v H') → te σ H Q
def EvA (ta : TA) (Γ : Gam) (P : List D → Prop) : Prop := ∀ (M : List Addr) (σ : L2.St) (H : Hp) (Q : List V → Hp → Prop), Good K B M H → EnvOk K M H σ Γ →
  (∀ vs H' ds, R K B H H' → P ds → DenAll K (hid M H') ds vs → Q vs H') → ta σ H Q
def EvT (tt : TT) (Γ : Gam) (P : Bool → Prop) : Prop := ∀ (M : List Addr) (σ : L2.St) (H : Hp) (Q : Bool → Hp → Prop), Good K B M H → EnvOk K M H σ Γ →
  (∀ k H', R K B H H' → P k → Q k H') → tt σ H Q
def EvO (to : TO) (Γ : Gam) (P : Option Int → Prop) : Prop := ∀ (M : List Addr) (σ : L2.St) (H : Hp) (Q : Option Int → Hp → Prop), Good K B M H → EnvOk K M H σ Γ →
  (∀ k H', R K B H H' → P k → Q k H') → to σ H Q
end
section
variable {K : PySem.W.Frag} {B : Bx} {Γ : Gam} {te ta tb tc : TE} {P P' : D → Prop}
theorem Ev.mono (h : Ev K B te Γ P) (e : ∀ d, P d → P' d) : Ev K B te Γ P' := fun M σ H Q g x q => h M σ H Q g x fun v H' d r p => q v H' d r (e d p)
theorem ev_var {i : Nat} {d : D} (h : Γ[i]? = some (some d)) (p : P d) : Ev K B (tVar i) Γ P := fun M σ H Q g x q => by
  obtain ⟨v, h1, h2⟩ := x.at_ i d h
  exact ⟨v, h1, q v H d g.refl p h2⟩
theorem ev_int {i : Int} (p : P (.int i)) : Ev K B (tC (.int i)) Γ P := fun M σ H Q g x q => q _ H _ g.refl p (.int i)
theorem ev_str {i : Str} (p : P (.str i)) : Ev K B (tC (.str i)) Γ P := fun M σ H Q g x q => q _ H _ g.refl p (.str i)
theorem ev_bl {i : Bool} (p : P (.bl i)) : Ev K B (tC (.bl i)) Γ P := fun M σ H Q g x q => q _ H _ g.refl p (.bl i)
theorem ev_non (p : P .non) : Ev K B (tC .non) Γ P := fun M σ H Q g x q => q _ H _ g.refl p .non
theorem ev_ty {n : String} (p : P (.ty n)) : Ev K B (tC (.ty n)) Γ P := fun M σ H Q g x q => q _ H _ g.refl p (.ty n)
theorem ev_ref {a : Addr} (p : P (.obj a)) : Ev K B (tC (.ref a)) Γ P := fun M σ H Q g x q => q _ H _ g.refl p (.obj a)
/-- two in a row -/
theorem ev_op {r : R2} (h : Ev K B ta Γ fun d => Ev K B tb Γ fun e => ∀ (M : List Addr) (H : Hp) (x y : V) (Q : VK), Good K B M H → Den K (hid M H) d x → Den K (hid M H) e y → (∀ v H' f, R K B H H' → P f → Den K (hid M H') f v → Q v H') → r x y H Q) :
    Ev K B (tOp r ta tb) Γ P := fun M σ H Q g x q =>
  h M σ H _ g x fun v H1 d r1 p1 h1 => p1 M σ H1 _ (g.r r1) (x.r g r1) fun u H2 e r2 p2 h2 =>
    p2 M H2 v u Q ((g.r r1).r r2) ((g.r r1).den r2 h1) h2 fun w H3 f r3 p3 h3 => q w H3 f ((r1.trans r2).trans r3) p3 h3
theorem ev_I0 {g : Int → Int → Int} (h : Ev K B ta Γ fun d => Ev K B tb Γ fun e => ∃ i j, d = .int i ∧ e = .int j ∧ P (.int (g i j))) : Ev K B (tOp (rI0 fun i j => .int (g i j)) ta tb) Γ P :=
  ev_op (h.mono fun d hd => hd.mono fun e ⟨i, j, e1, e2, p⟩ => fun M H x y Q gd dx dy q => by
    subst e1 e2; cases dx; cases dy
    exact ⟨i, j, rfl, rfl, q _ H _ gd.refl p (.int _)⟩)
theorem ev_B0 {g : Int → Int → Bool} (h : Ev K B ta Γ fun d => Ev K B tb Γ fun e => ∃ i j, d = .int i ∧ e = .int j ∧ P (.bl (g i j))) : Ev K B (tOp (rI0 fun i j => .bl (g i j)) ta tb) Γ P :=
  ev_op (h.mono fun d hd => hd.mono fun e ⟨i, j, e1, e2, p⟩ => fun M H x y Q gd dx dy q => by
    subst e1 e2; cases dx; cases dy
    exact ⟨i, j, rfl, rfl, q _ H _ gd.refl p (.bl _)⟩)
theorem ev_I {C : Int → Int → Prop} {g : Int → Int → Int} (h : Ev K B ta Γ fun d => Ev K B tb Γ fun e => ∃ i j, d = .int i ∧ e = .int j ∧ C i j ∧ P (.int (g i j))) : Ev K B (tOp (rI C fun i j => .int (g i j)) ta tb) Γ P :=
  ev_op (h.mono fun d hd => hd.mono fun e ⟨i, j, e1, e2, hc, p⟩ => fun M H x y Q gd dx dy q => by
    subst e1 e2; cases dx; cases dy
    exact ⟨i, j, rfl, rfl, hc, q _ H _ gd.refl p (.int _)⟩)
/-- scalars by == -/
def scD : D → D → Option Bool
  | .int i, .int j => some (decide (i = j))
  | .str i, .str j => some (decide (i = j))
  | .bl i, .bl j => some (decide (i = j))
  | .non, .non => some true
  | .int _, .str _ => some false
  | .str _, .int _ => some false
  | .non, .int _ => some false
  | .int _, .non => some false
  | .non, .bl _ => some false
  | .bl _, .non => some false
  | .non, .str _ => some false
  | .str _, .non => some false
  | .bl _, .str _ => some false
  | .str _, .bl _ => some false
  | _, _ => none
theorem scD_ok {H : Hp} {d e : D} {x y : V} {k : Bool} (h : scD d e = some k) (hx : Den K H d x) (hy : Den K H e y) : scal x y = true ∧ decide (x = y) = k := by
  cases hx <;> cases hy <;> first
    | (cases h; done)
    | (have h' := Option.some.inj h; subst h'; exact ⟨rfl, by simp⟩)
theorem ev_eq (h : Ev K B ta Γ fun d => Ev K B tb Γ fun e => ∃ k, scD d e = some k ∧ P (.bl k)) : Ev K B (tOp rEq ta tb) Γ P :=
  ev_op (h.mono fun d hd => hd.mono fun e ⟨k, hk, p⟩ => fun M H x y Q gd dx dy q => by
    obtain ⟨h1, h2⟩ := scD_ok hk dx dy
    exact ⟨h1, by rw [h2]; exact q _ H _ gd.refl p (.bl _)⟩)
theorem ev_ne (h : Ev K B ta Γ fun d => Ev K B tb Γ fun e => ∃ k, scD d e = some k ∧ P (.bl (!k))) : Ev K B (tOp rNe ta tb) Γ P :=
  ev_op (h.mono fun d hd => hd.mono fun e ⟨k, hk, p⟩ => fun M H x y Q gd dx dy q => by
    obtain ⟨h1, h2⟩ := scD_ok hk dx dy
    exact ⟨h1, by rw [h2]; exact q _ H _ gd.refl p (.bl _)⟩)
def isNon : D → Bool
  | .non => true
  | _ => false
theorem isNon_ok {H : Hp} {d : D} {x : V} (hx : Den K H d x) : decide (x = .non) = isNon d := by
  cases hx <;> simp [isNon]
theorem ev_isN (h : Ev K B ta Γ fun d => P (.bl (isNon d))) : Ev K B (tOp (fun x y H Q => y = .non ∧ Q (.bl (decide (x = .non))) H) ta (tC .non)) Γ P :=
  ev_op (h.mono fun d p => ev_non fun M H x y Q gd dx dy q => by
    cases dy
    exact ⟨rfl, by rw [isNon_ok dx]; exact q _ H _ gd.refl p (.bl _)⟩)
theorem ev_notN (h : Ev K B ta Γ fun d => P (.bl (!isNon d))) : Ev K B (tOp (fun x y H Q => y = .non ∧ Q (.bl (!decide (x = .non))) H) ta (tC .non)) Γ P :=
  ev_op (h.mono fun d p => ev_non fun M H x y Q gd dx dy q => by
    cases dy
    exact ⟨rfl, by rw [isNon_ok dx]; exact q _ H _ gd.refl p (.bl _)⟩)
theorem ev_add_str (h : Ev K B ta Γ fun d => Ev K B tb Γ fun e => ∃ i j, d = .str i ∧ e = .str j ∧ i.length + j.length ≤ sizeLine ∧ P (.str (i ++ j))) :
    Ev K B (tOp (fun x y H Q => ∃ i j, x = .str i ∧ y = .str j ∧ i.length + j.length ≤ sizeLine ∧ Q (.str (i ++ j)) H) ta tb) Γ P :=
  ev_op (h.mono fun d hd => hd.mono fun e ⟨i, j, e1, e2, hl, p⟩ => fun M H x y Q gd dx dy q => by
    subst e1 e2; cases dx; cases dy
    exact ⟨i, j, rfl, rfl, hl, q _ H _ gd.refl p (.str _)⟩)
/-! ### arguments, displays -/
variable {tr : TA} {PA : List D → Prop} {t u : TT} {PT : Bool → Prop}
theorem ea_nil (p : PA []) : EvA K B tNil Γ PA := fun M σ H Q g x q => q [] H [] g.refl p .nil
theorem ea_cons (h : Ev K B te Γ fun d => EvA K B tr Γ fun ds => PA (d :: ds)) : EvA K B (tCons te tr) Γ PA := fun M σ H Q g x q =>
  h M σ H _ g x fun v H1 d r1 p1 h1 => p1 M σ H1 _ (g.r r1) (x.r g r1) fun vs H2 ds r2 p2 h2 =>
    q (v :: vs) H2 (d :: ds) (r1.trans r2) p2 (.cons ((g.r r1).den r2 h1) h2)
theorem ev_tup (h : EvA K B tr Γ fun ds => ds.length ≤ sizeLine ∧ P (.tup ds)) : Ev K B (tTup tr) Γ P := fun M σ H Q g x q =>
  h M σ H _ g x fun vs H1 ds r1 ⟨hl, p1⟩ h1 => ⟨by rw [← h1.length]; exact hl, fun p hp => by
    have g1 := g.r r1
    have r2 := g1.new (o := .tup vs) hp
    exact q _ _ _ (r1.trans r2) p1 (.tup (.inl (.inl (hid_of (g1.fresh hp) upd_same))) (g1.dens r2 h1))⟩
theorem ev_lst (h : EvA K B tr Γ fun ds => ds.length ≤ sizeLine ∧ P (.lst ds)) : Ev K B (tLst tr) Γ P := fun M σ H Q g x q =>
  h M σ H _ g x fun vs H1 ds r1 ⟨hl, p1⟩ h1 => ⟨by rw [← h1.length]; exact hl, fun p hp => by
    have g1 := g.r r1
    have r2 := g1.new (o := .lst vs) hp
    exact q _ _ _ (r1.trans r2) p1 (.lst (hid_of (g1.fresh hp) upd_same) (g1.dens r2 h1))⟩
/-! ### tests -/
theorem EvT.mono {P P' : Bool → Prop} (h : EvT K B t Γ P) (e : ∀ k, P k → P' k) : EvT K B t Γ P' := fun M σ H Q g x q => h M σ H Q g x fun k H' r p => q k H' r (e k p)
theorem et_test (h : Ev K B te Γ fun d => ∃ k, d = .bl k ∧ PT k) : EvT K B (tTest te) Γ PT := fun M σ H Q g x q =>
  h M σ H _ g x fun v H1 d r1 ⟨k, e, p⟩ h1 => by
    subst e; cases h1
    exact ⟨k, rfl, q k H1 r1 p⟩
theorem et_B (h : Ev K B te Γ fun d => ∃ k, d = .bl k ∧ PT k) : EvT K B (tB te) Γ PT := fun M σ H Q g x q =>
  h M σ H _ g x fun v H1 d r1 ⟨k, e, p⟩ h1 => by
    subst e; cases h1
    exact ⟨k, rfl, q k H1 r1 p⟩
theorem et_not (h : EvT K B t Γ fun k => PT (!k)) : EvT K B (tNot t) Γ PT := fun M σ H Q g x q => h M σ H _ g x fun k H1 r1 p => q _ H1 r1 p
theorem et_and (h : EvT K B t Γ fun k => if k = true then EvT K B u Γ PT else PT false) : EvT K B (tAnd t u) Γ PT := fun M σ H Q g x q => h M σ H _ g x fun k H1 r1 p => by
  cases k with
  | true =>
    rw [if_pos rfl] at p ⊢
    exact p M σ H1 Q (g.r r1) (x.r g r1) fun k' H2 r2 p2 => q k' H2 (r1.trans r2) p2
  | false =>
    rw [if_neg Bool.false_ne_true] at p ⊢
    exact q false H1 r1 p
theorem et_or (h : EvT K B t Γ fun k => if k = true then PT true else EvT K B u Γ PT) : EvT K B (tOr t u) Γ PT := fun M σ H Q g x q => h M σ H _ g x fun k H1 r1 p => by
  cases k with
  | true =>
    rw [if_pos rfl] at p ⊢
    exact q true H1 r1 p
  | false =>
    rw [if_neg Bool.false_ne_true] at p ⊢
    exact p M σ H1 Q (g.r r1) (x.r g r1) fun k' H2 r2 p2 => q k' H2 (r1.trans r2) p2
theorem ev_andV (h : Ev K B ta Γ fun d => ∃ k, d = .bl k ∧ if k = true then Ev K B tb Γ P else P (.bl false)) : Ev K B (tAndV ta tb) Γ P := fun M σ H Q g x q =>
  h M σ H _ g x fun v H1 d r1 ⟨k, e, p⟩ h1 => by
    subst e; cases h1
    refine ⟨k, rfl, ?_⟩
    cases k with
    | true =>
      rw [if_pos rfl] at p ⊢
      exact p M σ H1 Q (g.r r1) (x.r g r1) fun v H2 d r2 p2 h2 => q v H2 d (r1.trans r2) p2 h2
    | false =>
      rw [if_neg Bool.false_ne_true] at p ⊢
      exact q _ H1 _ r1 p (.bl false)
theorem ev_orV (h : Ev K B ta Γ fun d => ∃ k, d = .bl k ∧ if k = true then P (.bl true) else Ev K B tb Γ P) : Ev K B (tOrV ta tb) Γ P := fun M σ H Q g x q =>
  h M σ H _ g x fun v H1 d r1 ⟨k, e, p⟩ h1 => by
    subst e; cases h1
    refine ⟨k, rfl, ?_⟩
    cases k with
    | true =>
      rw [if_pos rfl] at p ⊢
      exact q _ H1 _ r1 p (.bl true)
    | false =>
      rw [if_neg Bool.false_ne_true] at p ⊢
      exact p M σ H1 Q (g.r r1) (x.r g r1) fun v H2 d r2 p2 h2 => q v H2 d (r1.trans r2) p2 h2
theorem ev_notV (h : Ev K B ta Γ fun d => ∃ k, d = .bl k ∧ P (.bl (!k))) : Ev K B (tNotV ta) Γ P := fun M σ H Q g x q =>
  h M σ H _ g x fun v H1 d r1 ⟨k, e, p⟩ h1 => by
    subst e; cases h1
    exact ⟨k, rfl, q _ H1 _ r1 p (.bl _)⟩
theorem ev_ifE (h : EvT K B t Γ fun k => if k = true then Ev K B ta Γ P else Ev K B tb Γ P) : Ev K B (tIf t ta tb) Γ P := fun M σ H Q g x q => h M σ H _ g x fun k H1 r1 p => by
  cases k with
  | true =>
    rw [if_pos rfl] at p ⊢
    exact p M σ H1 Q (g.r r1) (x.r g r1) fun v H2 d r2 p2 h2 => q v H2 d (r1.trans r2) p2 h2
  | false =>
    rw [if_neg Bool.false_ne_true] at p ⊢
    exact p M σ H1 Q (g.r r1) (x.r g r1) fun v H2 d r2 p2 h2 => q v H2 d (r1.trans r2) p2 h2
/-- a op1 b op2 c -/
theorem ev_chain {r r' : R2} (h : Ev K B ta Γ fun d => Ev K B tb Γ fun e => ∃ k, (∀ (M : List Addr) (H : Hp) (x y : V) (Q : VK), Good K B M H → Den K (hid M H) d x → Den K (hid M H) e y → Q (.bl k) H → r x y H Q) ∧
      if k = true then Ev K B tc Γ fun f => ∃ k', (∀ (M : List Addr) (H : Hp) (x y : V) (Q : VK), Good K B M H → Den K (hid M H) e x → Den K (hid M H) f y → Q (.bl k') H → r' x y H Q) ∧ P (.bl k') else P (.bl false)) :
    Ev K B (tChain r r' ta tb tc) Γ P := fun M σ H Q g x q =>
  h M σ H _ g x fun v H1 d r1 p1 h1 => p1 M σ H1 _ (g.r r1) (x.r g r1) fun u H2 e r2 ⟨k, hr, p2⟩ h2 => by
    have g2 := (g.r r1).r r2
    refine hr M H2 v u _ g2 ((g.r r1).den r2 h1) h2 ⟨k, rfl, ?_⟩
    cases k with
    | true =>
      rw [if_pos rfl] at p2 ⊢
      refine p2 M σ H2 _ g2 (x.r g (r1.trans r2)) fun w H3 f r3 ⟨k', hr', p3⟩ h3 => ?_
      exact hr' M H3 u w Q (g2.r r3) (g2.den r3 h2) h3 (q _ H3 _ ((r1.trans r2).trans r3) p3 (.bl _))
    | false =>
      rw [if_neg Bool.false_ne_true] at p2 ⊢
      exact q _ H2 _ (r1.trans r2) p2 (.bl false)
theorem ch_int {g : Int → Int → Bool} {i j : Int} : ∀ (M : List Addr) (H : Hp) (x y : V) (Q : VK), Good K B M H → Den K (hid M H) (.int i) x → Den K (hid M H) (.int j) y → Q (.bl (g i j)) H → rI0 (fun i j => .bl (g i j)) x y H Q :=
  fun M H x y Q _ hx hy q => by cases hx; cases hy; exact ⟨i, j, rfl, rfl, q⟩
end
end DL

set_option maxHeartbeats 2000000
namespace DL
open PySem PySem.Spec PyProof.Rows L2 RZ
/-! ### calls of defs whose promise speaks of data -/
/-- n arguments; F B ds P: called with ds (the box at b) it hands back something of which P is true -/
def SpD (K : PySem.W.Frag) (n : Nat) (F : Bx → List D → (D → Prop) → Prop) : Sp := fun vs H Q _ => vs.length = n ∧ ∃ (B : Bx) (M : List Addr) (ds : List D) (P : D → Prop),
  Good K B M H ∧ DenAll K (hid M H) ds vs ∧ F B ds P ∧ ∀ v H' d, R K B H H' → P d → Den K (hid M H') d v → Q v H'
section
variable {K : PySem.W.Frag} {B : Bx} {Γ : Gam} {te ta tb tc : TE} {P P' : D → Prop} {t u : TT} {tr : TA} {F : Bx → List D → (D → Prop) → Prop} {n : Nat}
theorem ev_call {E : XK} (h : EvA K B tr Γ fun ds => ds.length = n ∧ F B ds P) : Ev K B (tCall (SpD K n F) [] E tr) Γ P := fun M σ H Q g x q =>
  h M σ H _ g x fun vs H1 ds r1 ⟨hl, p1⟩ h1 => by
    show SpD K n F (vs ++ []) H1 Q E
    rw [List.append_nil]
    exact ⟨by rw [← h1.length]; exact hl, B, M, ds, P, g.r r1, h1, p1, fun v H' d r2 p2 h2 => q v H' d (r1.trans r2) p2 h2⟩
/-- with one default behind the arguments -/
theorem ev_callD {E : XK} {dvs : List V} {dds : List D} (hd : ∀ H, DenAll K H dds dvs) (h : EvA K B tr Γ fun ds => (ds ++ dds).length = n ∧ F B (ds ++ dds) P) : Ev K B (tCall (SpD K n F) dvs E tr) Γ P := fun M σ H Q g x q =>
  h M σ H _ g x fun vs H1 ds r1 ⟨hl, p1⟩ h1 => by
    show SpD K n F (vs ++ dvs) H1 Q E
    have h2 := h1.app (hd (hid M H1))
    exact ⟨by rw [← h2.length]; exact hl, B, M, ds ++ dds, P, g.r r1, h2, p1, fun v H' d r2 p2 h2 => q v H' d (r1.trans r2) p2 h2⟩
end

/-! ### statements -/
structure Pst where
  nx : Gam → Prop
  rt : D → Prop
  bk : Gam → Prop := fun _ => False
  ct : Gam → Prop := fun _ => False
def Rn (K : PySem.W.Frag) (B : Bx) (ts : TS) (Γ : Gam) (P : Pst) : Prop := ∀ (M : List Addr) (σ : L2.St) (H : Hp) (E : Ends), Good K B M H → EnvOk K M H σ Γ →
  (∀ σ' H' Γ', R K B H H' → P.nx Γ' → EnvOk K M H' σ' Γ' → E.nx σ' H') → (∀ v H' d, R K B H H' → P.rt d → Den K (hid M H') d v → E.rt v H') →
  (∀ σ' H' Γ', R K B H H' → P.bk Γ' → EnvOk K M H' σ' Γ' → E.bk σ' H') → (∀ σ' H' Γ', R K B H H' → P.ct Γ' → EnvOk K M H' σ' Γ' → E.ct σ' H') → ts E σ H
section
variable {K : PySem.W.Frag} {B : Bx} {Γ : Gam} {te ta tb tc : TE} {P P' : Pst} {t u : TS} {c : TT}
theorem rn_next (p : P.nx Γ) : Rn K B tNext Γ P := fun M σ H E g x k1 k2 k3 k4 => k1 σ H Γ g.refl p x
theorem rn_seq (h : Rn K B t Γ { P with nx := fun Γ' => Rn K B u Γ' P }) : Rn K B (tSeq t u) Γ P := fun M σ H E g x k1 k2 k3 k4 =>
  h M σ H { E with nx := u E } g x (fun σ' H' Γ' r p x' => p M σ' H' E (g.r r) x' (fun σ2 H2 Γ2 r2 => k1 σ2 H2 Γ2 (r.trans r2)) (fun v H2 d r2 => k2 v H2 d (r.trans r2)) (fun σ2 H2 Γ2 r2 => k3 σ2 H2 Γ2 (r.trans r2)) (fun σ2 H2 Γ2 r2 => k4 σ2 H2 Γ2 (r.trans r2))) k2 k3 k4
theorem rn_if (h : EvT K B c Γ fun k => if k = true then Rn K B t Γ P else Rn K B u Γ P) : Rn K B (tIfS c t u) Γ P := fun M σ H E g x k1 k2 k3 k4 =>
  h M σ H _ g x fun k H1 r p => by
    cases k with
    | true =>
      rw [if_pos rfl] at p ⊢
      exact p M σ H1 E (g.r r) (x.r g r) (fun σ2 H2 Γ2 r2 => k1 σ2 H2 Γ2 (r.trans r2)) (fun v H2 d r2 => k2 v H2 d (r.trans r2)) (fun σ2 H2 Γ2 r2 => k3 σ2 H2 Γ2 (r.trans r2)) (fun σ2 H2 Γ2 r2 => k4 σ2 H2 Γ2 (r.trans r2))
    | false =>
      rw [if_neg Bool.false_ne_true] at p ⊢
      exact p M σ H1 E (g.r r) (x.r g r) (fun σ2 H2 Γ2 r2 => k1 σ2 H2 Γ2 (r.trans r2)) (fun v H2 d r2 => k2 v H2 d (r.trans r2)) (fun σ2 H2 Γ2 r2 => k3 σ2 H2 Γ2 (r.trans r2)) (fun σ2 H2 Γ2 r2 => k4 σ2 H2 Γ2 (r.trans r2))
theorem rn_ret (h : Ev K B te Γ P.rt) : Rn K B (tRet te) Γ P := fun M σ H E g x k1 k2 k3 k4 => h M σ H _ g x fun v H1 d r p dn => k2 v H1 d r p dn
theorem rn_retN (p : P.rt .non) : Rn K B tRetN Γ P := fun M σ H E g x k1 k2 k3 k4 => k2 _ H _ g.refl p .non
theorem rn_set {i : Nat} (h : Ev K B te Γ fun d => P.nx (Γ.set i (some d))) : Rn K B (tAsg te (gName i)) Γ P := fun M σ H E g x k1 k2 k3 k4 =>
  h M σ H _ g x fun v H1 d r p dn => k1 _ H1 _ r p ((x.r g r).set dn)
theorem rn_drop (h : Ev K B te Γ fun _ => P.nx Γ) : Rn K B (tDrop te) Γ P := fun M σ H E g x k1 k2 k3 k4 =>
  h M σ H _ g x fun v H1 d r p dn => k1 _ H1 _ r p (x.r g r)
theorem rn_par {i j : Nat} {tr : TA} (h : EvA K B tr Γ fun ds => ∃ d e, ds = [d, e] ∧ P.nx ((Γ.set i (some d)).set j (some e))) : Rn K B (tPar i j tr) Γ P := fun M σ H E g x k1 k2 k3 k4 =>
  h M σ H _ g x fun vs H1 ds r ⟨d, e, q, p⟩ dn => by
    subst q
    cases dn with
    | cons h1 h2 =>
      cases h2 with
      | cons h2 h3 =>
        cases h3
        exact ⟨_, _, rfl, k1 _ H1 _ r p (((x.r g r).set h1).set h2)⟩
theorem rn_brk (p : P.bk Γ) : Rn K B tBreak Γ P := fun M σ H E g x k1 k2 k3 k4 => k3 σ H Γ g.refl p x
theorem rn_cont (p : P.ct Γ) : Rn K B tCont Γ P := fun M σ H E g x k1 k2 k3 k4 => k4 σ H Γ g.refl p x
/-- name += e for ints -/
theorem rn_aug {i : Nat} {f : Int → Int → Int} {a : Int} (hx : Γ[i]? = some (some (.int a))) (h : Ev K B te Γ fun d => ∃ z, d = .int z ∧ P.nx (Γ.set i (some (.int (f a z))))) : Rn K B (tAug i te (ipI f)) Γ P := fun M σ H E g x k1 k2 k3 k4 => by
  obtain ⟨v, h1, h2⟩ := x.at_ i _ hx
  cases h2
  exact ⟨.int a, h1, h M σ H _ g x fun v H1 d r ⟨z, e, p⟩ dn => by
    subst e; cases dn
    exact ⟨a, z, rfl, rfl, k1 _ H1 _ r p ((x.r g r).set (.int _))⟩⟩
end

/-! ### what is walked -/
/-- J walks just the data ds, whatever new things come meanwhile -/
def Wk (K : PySem.W.Frag) (B : Bx) (M : List Addr) (H : Hp) (J : It) (ds : List D) : Prop := ∀ H1, Good K B M H1 → R K B H H1 →
  (∀ i d, ds[i]? = some d → J.go i H1 ∧ ∀ x H2, J.yld i H1 x H2 → R K B H1 H2 ∧ Den K (hid M H2) d x) ∧ J.stop ds.length H1
def EvI (K : PySem.W.Frag) (B : Bx) (wi : TI) (Γ : Gam) (P : List D → Prop) : Prop := ∀ (M : List Addr) (σ : L2.St) (H : Hp) (Rk : It → Hp → Prop), Good K B M H → EnvOk K M H σ Γ →
  (∀ J H' ds, R K B H H' → P ds → (∀ M', (∀ a ∈ M, a ∈ M') → (∀ a ∈ M', a ∈ M ∨ H' a = none) → Wk K B M' H' J ds) → Rk J H') → wi σ H Rk
/-- a target gets d; vs: the slots that may change -/
def EvG (K : PySem.W.Frag) (B : Bx) (g : TG) (vs : List Nat) (Γ : Gam) (d : D) (P : Gam → Prop) : Prop := ∀ (M : List Addr) (σ : L2.St) (H : Hp) (v : V) (Q : L2.St → Hp → Prop), Good K B M H → EnvOk K M H σ Γ → Den K (hid M H) d v →
  (∀ σ' Γ', P Γ' → EnvOk K M H σ' Γ' → σ'.length = σ.length → (∀ j, j ∉ vs → σ'[j]? = σ[j]?) → Q σ' H) → g v σ H Q
section
variable {K : PySem.W.Frag} {B : Bx} {Γ : Gam} {te ta tb tc : TE} {tr : TA} {wi : TI} {g : TG}
theorem eg_name {i : Nat} {vs : List Nat} {d : D} {P : Gam → Prop} (hi : i ∈ vs) (p : P (Γ.set i (some d))) : EvG K B (gName i) vs Γ d P := fun M σ H v Q g x dn q =>
  q _ _ p (x.set dn) (by rw [List.length_set]) fun j hj => by rw [List.getElem?_set_ne (fun z => hj (by rw [← z]; exact hi))]
theorem eg_pair {i j : Nat} {vs : List Nat} {d e : D} {P : Gam → Prop} (hi : i ∈ vs) (hj : j ∈ vs) (p : P ((Γ.set i (some d)).set j (some e))) : EvG K B (gTup K 2 (gCons (gName i) (gCons (gName j) gNil))) vs Γ (.tup [d, e]) P := fun M σ H v Q g x dn q => by
  cases dn with
  | tup h1 h2 =>
    cases h2 with
    | cons d1 h2 =>
      cases h2 with
      | cons d2 h2 =>
        cases h2
        refine ⟨_, _, rfl, SqT.sub hid_sub h1, rfl, _, _, rfl, _, _, rfl, rfl, ?_⟩
        refine q _ _ p ((x.set d1).set d2) (by rw [List.length_set, List.length_set]) fun k hk => ?_
        rw [List.getElem?_set_ne (fun z => hk (by rw [← z]; exact hj)), List.getElem?_set_ne (fun z => hk (by rw [← z]; exact hi))]
theorem wipe_get {σ : L2.St} : ∀ {vs : List Nat} {j : Nat}, j ∈ vs → j < σ.length → (L2.wipe σ vs)[j]? = some none
  | v :: vs, j, h, hl => by
    unfold L2.wipe
    by_cases e : v = j
    · subst e
      exact List.getElem?_set_self (by rw [L2.wipe_length]; exact hl)
    · rw [List.getElem?_set_ne e]
      rcases List.mem_cons.mp h with z | z
      · exact absurd z.symm e
      · exact wipe_get z hl
theorem wipe_eq {σ τ : L2.St} {vs : List Nat} (hl : τ.length = σ.length) (h : ∀ j, j ∉ vs → τ[j]? = (L2.wipe σ vs)[j]?) : L2.wipe τ vs = L2.wipe σ vs := by
  apply List.ext_getElem?
  intro j
  by_cases hj : j ∈ vs
  · by_cases hb : j < σ.length
    · rw [wipe_get hj hb, wipe_get hj (by rw [hl]; exact hb)]
    · rw [List.getElem?_eq_none (by rw [L2.wipe_length]; omega), List.getElem?_eq_none (by rw [L2.wipe_length]; omega)]
  · rw [L2.wipe_out hj]
    exact h j hj
/-- a list comprehension, by an invariant over the turns and what is made so far -/
theorem ev_lc {tt : TT} {vs : List Nat} {P : D → Prop} (hi : EvI K B wi Γ fun ds => ds.length < sizeLine ∧ ∃ I : Nat → List D → Prop, I 0 [] ∧
      (∀ i d acc, ds[i]? = some d → I i acc → acc.length ≤ i → EvG K B g vs (wipeG Γ vs) d fun Γ' => EvT K B tt Γ' fun k => if k = true then Ev K B te Γ' fun e => I (i + 1) (acc ++ [e]) else I (i + 1) acc) ∧
      ∀ acc, I ds.length acc → acc.length ≤ ds.length → P (.lst acc)) : Ev K B (tLc wi g tt te vs) Γ P := fun M σ H Q gd x q =>
  hi M σ H _ gd x fun J H1 ds r1 ⟨hz, I, i0, it, ie⟩ wk p hp => by
    have g1 := gd.r r1
    have x1 := x.r gd r1
    have pb := g1.fresh_b hp
    have pl := g1.fresh_l hp
    have g1' : Good K B (p :: M) (upd H1 p (.lst [])) := g1.own hp
    have w := wk (p :: M) (fun a ha => List.mem_cons_of_mem _ ha) (fun a ha => by
      rcases List.mem_cons.mp ha with e | ha
      · exact .inr (by rw [e]; exact hp)
      · exact .inl ha)
    refine ⟨fun i m H2 => m = ds.length - i ∧ i ≤ ds.length ∧ ∃ acc av, Good K B (p :: M) H2 ∧ R K B H1 H2 ∧ H2 p = some (.lst av) ∧ DenAll K (hid (p :: M) H2) acc av ∧ I i acc ∧ acc.length ≤ i,
      ⟨ds.length, by simp, Nat.zero_le _, [], [], g1', g1.new hp, upd_same, .nil, i0, Nat.le_refl _⟩, ?_⟩
    rintro i m H2 ⟨rfl, hil, acc, av, g2, r2, hp2, da, hI, hal⟩
    obtain ⟨wy, ws⟩ := w H2 g2 r2
    by_cases hlt : i < ds.length
    · have hd : ds[i]? = some ds[i] := List.getElem?_eq_getElem hlt
      obtain ⟨wg, wn⟩ := wy i _ hd
      refine .inr ⟨wg, fun H3 => ∃ acc av, Good K B (p :: M) H3 ∧ R K B H1 H3 ∧ H3 p = some (.lst av) ∧ DenAll K (hid (p :: M) H3) acc av ∧ I (i + 1) acc ∧ acc.length ≤ i + 1,
        fun H' h' => ⟨ds.length - (i + 1), by omega, rfl, hlt, h'⟩, fun v H3 hy => ?_⟩
      obtain ⟨r3, dv⟩ := wn v H3 hy
      have g3 := g2.r r3
      have x3 : EnvOk K (p :: M) H3 σ Γ := ⟨x1.len, fun k e hk => by
        obtain ⟨u, hu, du⟩ := x1.at_ k e hk
        exact ⟨u, hu, Den.sub (fun a o ha => by
          obtain ⟨n, qa⟩ := hid_get ha
          have na : a ≠ p := ne_of_none qa hp
          refine hid_of (fun z => ?_) ((r2.trans r3).2 a o qa fun z => n (by rw [z]; exact g1.mem))
          rcases List.mem_cons.mp z with z | z
          · exact na z
          · exact n z) e u du⟩⟩
      refine it i _ acc hd hI hal (p :: M) (L2.wipe σ vs) H3 v _ g3 (x3.wipe vs) dv fun σ' Γ' pg x4 hlen hout => ?_
      refine ⟨wipe_eq (by rw [hlen, L2.wipe_length]) hout, ?_⟩
      refine pg (p :: M) σ' H3 _ g3 x4 fun k H4 r4 pk => ?_
      have g4 := g3.r r4
      cases k with
      | false =>
        rw [if_neg Bool.false_ne_true] at pk ⊢
        exact ⟨acc, av, g4, r2.trans (r3.trans r4), (r3.trans r4).2 p _ hp2 pb, g2.dens (r3.trans r4) da, pk, by omega⟩
      | true =>
        rw [if_pos rfl] at pk ⊢
        refine pk (p :: M) σ' H4 _ g4 (x4.r g3 r4) fun y H5 e r5 pe de => ?_
        have g5 := g4.r r5
        have r25 := r3.trans (r4.trans r5)
        have hp5 := r25.2 p _ hp2 pb
        have da5 := g2.dens r25 da
        refine ⟨av, hp5, by rw [← da.length]; omega, acc ++ [e], av ++ [y], g5.putOwn pb pl, ?_, upd_same, ?_, pe, by rw [List.length_append, List.length_singleton]; omega⟩
        · refine ⟨(g5.putOwn (o := .lst (av ++ [y])) pb pl).box, fun a o ha na => ?_⟩
          rw [upd_ne (ne_of_none ha hp)]
          exact (r2.trans r25).2 a o ha na
        · rw [hid_put List.mem_cons_self]
          exact da5.snoc de
    · have e : i = ds.length := by omega
      subst e
      refine .inl ⟨ws, ?_⟩
      refine q _ H2 _ (r1.trans r2) (ie acc hI hal) (.lst (hid_of (g1.fresh hp) hp2) (DenAll.sub hid_less _ _ da))
/-- a loop, by an invariant over the turns and the names -/
theorem rn_for {tu : TS} {P : Pst} (hi : EvI K B wi Γ fun ds => ∃ I : Nat → Gam → Prop, I 0 Γ ∧
      (∀ i d Γ1, ds[i]? = some d → I i Γ1 → ∃ vs, EvG K B g vs Γ1 d fun Γ2 => Rn K B tu Γ2 { P with nx := I (i + 1), ct := I (i + 1), bk := P.nx }) ∧
      ∀ Γ1, I ds.length Γ1 → P.nx Γ1) : Rn K B (tFor wi g tu) Γ P := fun M σ H E gd x k1 k2 k3 k4 =>
  hi M σ H _ gd x fun J H1 ds r1 ⟨I, i0, it, ie⟩ wk => by
    have g1 := gd.r r1
    have w := wk M (fun _ h => h) fun _ h => .inl h
    refine ⟨fun i m σ2 H2 => m = ds.length - i ∧ i ≤ ds.length ∧ ∃ Γ2, Good K B M H2 ∧ R K B H1 H2 ∧ EnvOk K M H2 σ2 Γ2 ∧ I i Γ2, ⟨ds.length, by simp, Nat.zero_le _, Γ, g1, g1.refl, x.r gd r1, i0⟩, ?_⟩
    rintro i m σ2 H2 ⟨rfl, hil, Γ2, g2, r2, x2, hI⟩
    obtain ⟨wy, ws⟩ := w H2 g2 r2
    by_cases hlt : i < ds.length
    · have hd : ds[i]? = some ds[i] := List.getElem?_eq_getElem hlt
      obtain ⟨wg, wn⟩ := wy i _ hd
      refine .inr ⟨wg, fun σ3 H3 => ∃ Γ3, Good K B M H3 ∧ R K B H1 H3 ∧ EnvOk K M H3 σ3 Γ3 ∧ I (i + 1) Γ3, fun σ' H' h' => ⟨ds.length - (i + 1), by omega, rfl, hlt, h'⟩, fun v H3 hy => ?_⟩
      obtain ⟨r3, dv⟩ := wn v H3 hy
      have g3 := g2.r r3
      obtain ⟨vs, eg⟩ := it i _ Γ2 hd hI
      refine eg M σ2 H3 v _ g3 (x2.r g2 r3) dv fun σ' Γ' pg x4 _ _ => ?_
      have r13 := r2.trans r3
      refine pg M σ' H3 _ g3 x4 (fun σ5 H5 Γ5 r5 p5 x5 => ?_) (fun v H5 d r5 p5 d5 => ?_) (fun σ5 H5 Γ5 r5 p5 x5 => ?_) fun σ5 H5 Γ5 r5 p5 x5 => ?_
      · exact ⟨Γ5, g3.r r5, r13.trans r5, x5, p5⟩
      · exact k2 v H5 d (r1.trans (r13.trans r5)) p5 d5
      · exact k1 σ5 H5 Γ5 (r1.trans (r13.trans r5)) p5 x5
      · exact ⟨Γ5, g3.r r5, r13.trans r5, x5, p5⟩
    · have e : i = ds.length := by omega
      subst e
      exact .inl ⟨ws, k1 σ2 H2 Γ2 (r1.trans r2) (ie Γ2 hI) x2⟩
end
end DL

set_option maxHeartbeats 2000000
namespace DL
open PySem PySem.Spec PyProof.Rows L2 RZ
section
variable {K : PySem.W.Frag} {B : Bx} {Γ : Gam} {te ta tb tc : TE} {tr : TA} {P : D → Prop} {PI : List D → Prop}
/-! ### iterators -/
def rangeD (lo : Int) (n : Nat) : List D := (List.range n).map fun (i : Nat) => D.int (lo + (i : Int))
theorem rangeD_len (lo : Int) (n : Nat) : (rangeD lo n).length = n := by unfold rangeD; rw [List.length_map, List.length_range]
theorem rangeD_get {lo : Int} {n i : Nat} {d : D} (h : (rangeD lo n)[i]? = some d) : i < n ∧ d = .int (lo + (i : Int)) := by
  unfold rangeD at h
  rw [List.getElem?_map] at h
  by_cases hi : i < n
  · rw [List.getElem?_range hi] at h
    exact ⟨hi, (Option.some.inj h).symm⟩
  · rw [List.getElem?_eq_none (by rw [List.length_range]; omega)] at h
    cases h
theorem wk_rng {M : List Addr} {H : Hp} {lo : Int} {n : Nat} : Wk K B M H (Itr lo n) (rangeD lo n) := fun H1 g r => ⟨fun i d h => by
  obtain ⟨hi, e⟩ := rangeD_get h
  subst e
  refine ⟨hi, fun x H2 y => ?_⟩
  obtain ⟨e1, e2⟩ := y
  subst e1 e2
  exact ⟨g.refl, .int _⟩, by rw [rangeD_len]; exact Nat.le_refl _⟩
theorem ei_rng1 (h : EvA K B tr Γ fun ds => ∃ n : Int, ds = [.int n] ∧ -(2 ^ 62) ≤ n ∧ n < 2 ^ 62 ∧ PI (rangeD 0 n.toNat)) : EvI K B (iRng1 tr) Γ PI := fun M σ H Rk g x q =>
  h M σ H _ g x fun vs H1 ds r ⟨n, e, h1, h2, p⟩ dn => by
    subst e
    cases dn with
    | cons d1 d2 =>
      cases d1; cases d2
      exact ⟨n, rfl, h1, h2, q _ H1 _ r p fun _ _ _ => wk_rng⟩
theorem ei_rng2 (h : EvA K B tr Γ fun ds => ∃ i j : Int, ds = [.int i, .int j] ∧ (-(2 ^ 62) ≤ i ∧ i < 2 ^ 62 ∧ -(2 ^ 62) ≤ j ∧ j < 2 ^ 62) ∧ PI (rangeD i (j - i).toNat)) : EvI K B (iRng2 tr) Γ PI := fun M σ H Rk g x q =>
  h M σ H _ g x fun vs H1 ds r ⟨i, j, e, h1, p⟩ dn => by
    subst e
    cases dn with
    | cons d1 d2 =>
      cases d2 with
      | cons d2 d3 =>
        cases d1; cases d2; cases d3
        exact ⟨i, j, rfl, h1, q _ H1 _ r p fun _ _ _ => wk_rng⟩
theorem den_up {M M' : List Addr} {H : Hp} {d : D} {v : V} (h2 : ∀ a ∈ M', a ∈ M ∨ H a = none) (h : Den K (hid M H) d v) : Den K (hid M' H) d v := Den.sub (fun a o e => by
  obtain ⟨n, q⟩ := hid_get e
  refine hid_of (fun z => ?_) q
  rcases h2 a z with z | z
  · exact n z
  · rw [q] at z; cases z) d v h
theorem dens_up {M M' : List Addr} {H : Hp} {ds : List D} {vs : List V} (h2 : ∀ a ∈ M', a ∈ M ∨ H a = none) (h : DenAll K (hid M H) ds vs) : DenAll K (hid M' H) ds vs := DenAll.sub (fun a o e => by
  obtain ⟨n, q⟩ := hid_get e
  refine hid_of (fun z => ?_) q
  rcases h2 a z with z | z
  · exact n z
  · rw [q] at z; cases z) ds vs h
/-- over a list that stands -/
theorem wk_list {M : List Addr} {H : Hp} {a : Addr} {xs : List V} {ds : List D} (h : hid M H a = some (.lst xs)) (hd : DenAll K (hid M H) ds xs) : Wk K B M H (Itl K a) ds := fun H1 g r => by
  obtain ⟨hn, hq⟩ := hid_get h
  have hb : a ≠ B.b := fun z => hn (by rw [z]; exact g.mem)
  have h1 : H1 a = some (.lst xs) := r.2 a _ hq hb
  refine ⟨fun i d hi => ?_, ⟨xs, SqL.of h1, Nat.le_of_eq hd.length.symm⟩⟩
  obtain ⟨v, hv, dv⟩ := hd.get hi
  refine ⟨⟨xs, v, SqL.of h1, hv⟩, fun x H2 y => ?_⟩
  obtain ⟨e, y⟩ := y
  subst e
  have e2 : x = v := Option.some.inj ((y xs (SqL.of h1)).symm.trans hv)
  subst e2
  refine ⟨g.refl, Den.sub (fun a o ha => ?_) d _ dv⟩
  obtain ⟨n, qa⟩ := hid_get ha
  exact hid_of n (r.2 a o qa fun z => n (by rw [z]; exact g.mem))
theorem wk_tup {M : List Addr} {H : Hp} {a : Addr} {xs : List V} {ds : List D} (h : SqT K (hid M H) a xs) (hd : DenAll K (hid M H) ds xs) : Wk K B M H (Itt K a) ds := fun H1 g r => by
  have h1 : SqT K H1 a xs := SqT.sub (fun c o hc => by
    obtain ⟨n, qa⟩ := hid_get hc
    exact r.2 c o qa fun z => n (by rw [z]; exact g.mem)) h
  refine ⟨fun i d hi => ?_, ⟨xs, h1, Nat.le_of_eq hd.length.symm⟩⟩
  obtain ⟨v, hv, dv⟩ := hd.get hi
  refine ⟨⟨xs, v, h1, hv⟩, fun x H2 y => ?_⟩
  obtain ⟨e, y⟩ := y
  subst e
  have e2 : x = v := Option.some.inj ((y xs h1).symm.trans hv)
  subst e2
  refine ⟨g.refl, Den.sub (fun a o ha => ?_) d _ dv⟩
  obtain ⟨n, qa⟩ := hid_get ha
  exact hid_of n (r.2 a o qa fun z => n (by rw [z]; exact g.mem))
def charsD (x : Str) : List D := x.cps.toList.map fun c => D.str ⟨#[c]⟩
theorem wk_str {M : List Addr} {H : Hp} {x : Str} : Wk K B M H (Its x) (charsD x) := fun H1 g r => by
  have hl : (charsD x).length = x.cps.size := by unfold charsD; rw [List.length_map, Array.length_toList]
  refine ⟨fun i d hi => ?_, by rw [hl]; exact Nat.le_refl _⟩
  unfold charsD at hi
  rw [List.getElem?_map] at hi
  cases q : x.cps.toList[i]? with
  | none => rw [q] at hi; cases hi
  | some c =>
    rw [q] at hi
    have e := Option.some.inj hi
    subst e
    have hlt : i < x.cps.toList.length := (List.getElem?_eq_some_iff.mp q).1
    rw [Array.length_toList] at hlt
    refine ⟨hlt, fun v H2 y => ?_⟩
    obtain ⟨e1, c', hc, ev⟩ := y
    subst e1
    rw [← Array.getElem?_toList, q] at hc
    cases hc
    subst ev
    exact ⟨g.refl, .str _⟩
theorem ei_str (h : Ev K B te Γ fun d => ∃ x, d = .str x ∧ PI (charsD x)) : EvI K B (iStr te) Γ PI := fun M σ H Rk g x q =>
  h M σ H _ g x fun v H1 d r ⟨y, e, p⟩ dn => by
    subst e; cases dn
    exact ⟨y, rfl, q _ H1 _ r p fun _ _ _ => wk_str⟩
theorem ei_list {tl : TE} (h : Ev K B tl Γ fun d => ∃ ds, d = .lst ds ∧ PI ds) : EvI K B (iList K tl) Γ PI := fun M σ H Rk g x q =>
  h M σ H _ g x fun v H1 d r ⟨ds, e, p⟩ dn => by
    subst e
    cases dn with
    | lst h1 h2 => exact ⟨_, rfl, ⟨_, SqL.of (hid_get h1).2⟩, q _ H1 _ r p fun M' s1 s2 => wk_list (hid_of (fun z => by
        rcases s2 _ z with z | z
        · exact (hid_get h1).1 z
        · rw [(hid_get h1).2] at z; cases z) (hid_get h1).2) (dens_up s2 h2)⟩
theorem sqT_up {M M' : List Addr} {H : Hp} {a : Addr} {xs : List V} (h2 : ∀ a ∈ M', a ∈ M ∨ H a = none) (h : SqT K (hid M H) a xs) : SqT K (hid M' H) a xs := SqT.sub (fun a o e => by
  obtain ⟨n, q⟩ := hid_get e
  refine hid_of (fun z => ?_) q
  rcases h2 a z with z | z
  · exact n z
  · rw [q] at z; cases z) h
theorem ei_tup {tl : TE} (h : Ev K B tl Γ fun d => ∃ ds, d = .tup ds ∧ PI ds) : EvI K B (iTup K tl) Γ PI := fun M σ H Rk g x q =>
  h M σ H _ g x fun v H1 d r ⟨ds, e, p⟩ dn => by
    subst e
    cases dn with
    | tup h1 h2 => exact ⟨_, rfl, ⟨_, SqT.sub hid_sub h1⟩, q _ H1 _ r p fun M' s1 s2 => wk_tup (sqT_up s2 h1) (dens_up s2 h2)⟩
def zipD : List D → List D → List D
  | x :: xs, y :: ys => .tup [x, y] :: zipD xs ys
  | _, _ => []
theorem zipD_get : ∀ {xs ys : List D} {i : Nat} {d : D}, (zipD xs ys)[i]? = some d → ∃ x y, xs[i]? = some x ∧ ys[i]? = some y ∧ d = .tup [x, y]
  | [], _, _, _, h => by simp [zipD] at h
  | _ :: _, [], _, _, h => by simp [zipD] at h
  | x :: xs, y :: ys, 0, d, h => ⟨x, y, rfl, rfl, (Option.some.inj h).symm⟩
  | x :: xs, y :: ys, i + 1, d, h => zipD_get (xs := xs) (ys := ys) (i := i) h
theorem zipD_len : ∀ {xs ys : List D}, xs.length ≤ (zipD xs ys).length ∨ ys.length ≤ (zipD xs ys).length
  | [], _ => .inl (Nat.zero_le _)
  | _ :: _, [] => .inr (Nat.zero_le _)
  | x :: xs, y :: ys => by
    rcases zipD_len (xs := xs) (ys := ys) with h | h
    · exact .inl (Nat.succ_le_succ h)
    · exact .inr (Nat.succ_le_succ h)
theorem zipD_le : ∀ {xs ys : List D}, (zipD xs ys).length ≤ xs.length
  | [], _ => Nat.le_refl _
  | _ :: _, [] => Nat.zero_le _
  | x :: xs, y :: ys => Nat.succ_le_succ (zipD_le (xs := xs) (ys := ys))
theorem rec_sub {B : Bx} {M : List Addr} {H H1 : Hp} (g : Good K B M H1) (r : R K B H H1) : ∀ a o, hid M H a = some o → hid M H1 a = some o := fun a o ha => by
  obtain ⟨n, qa⟩ := hid_get ha
  exact hid_of n (r.2 a o qa fun z => n (by rw [z]; exact g.mem))
theorem wk_zip {M : List Addr} {H : Hp} {a b : Addr} {xs ys : List V} {ds es : List D} (h : hid M H a = some (.lst xs)) (hd : DenAll K (hid M H) ds xs) (h' : hid M H b = some (.lst ys)) (he : DenAll K (hid M H) es ys) : Wk K B M H (Itz K a b) (zipD ds es) := fun H1 g r => by
  have h1 := SqL.of (K := K) (hid_get (rec_sub g r a _ h)).2
  have h2 := SqL.of (K := K) (hid_get (rec_sub g r b _ h')).2
  refine ⟨fun i d hi => ?_, ⟨xs, ys, h1, h2, by rw [← hd.length, ← he.length]; exact zipD_len⟩⟩
  obtain ⟨dx, dy, gx, gy, e⟩ := zipD_get hi
  subst e
  obtain ⟨v, hv, dv⟩ := hd.get gx
  obtain ⟨u, hu, du⟩ := he.get gy
  refine ⟨⟨xs, ys, v, u, h1, h2, hv, hu⟩, fun x H2 y => ?_⟩
  obtain ⟨T, x1, y1, ex, nT, eH, f1, f2⟩ := y
  have e1 := Option.some.inj ((f1 _ h1).symm.trans hv)
  have e2 := Option.some.inj ((f2 _ h2).symm.trans hu)
  subst ex e1 e2 eH
  have r2 := g.new (o := .tup [x1, y1]) nT
  refine ⟨r2, .tup (.inl (.inl (hid_of (g.fresh nT) upd_same))) ?_⟩
  refine g.dens r2 (.cons (Den.sub (rec_sub g r) _ _ dv) (.cons (Den.sub (rec_sub g r) _ _ du) .nil))
theorem wk_zipT {M : List Addr} {H : Hp} {a b : Addr} {xs ys : List V} {ds es : List D} (h : SqT K (hid M H) a xs) (hd : DenAll K (hid M H) ds xs) (h' : SqT K (hid M H) b ys) (he : DenAll K (hid M H) es ys) : Wk K B M H (ItzT K a b) (zipD ds es) := fun H1 g r => by
  have h1 := SqT.sub hid_sub (SqT.sub (rec_sub g r) h)
  have h2 := SqT.sub hid_sub (SqT.sub (rec_sub g r) h')
  refine ⟨fun i d hi => ?_, ⟨xs, ys, h1, h2, by rw [← hd.length, ← he.length]; exact zipD_len⟩⟩
  obtain ⟨dx, dy, gx, gy, e⟩ := zipD_get hi
  subst e
  obtain ⟨v, hv, dv⟩ := hd.get gx
  obtain ⟨u, hu, du⟩ := he.get gy
  refine ⟨⟨xs, ys, v, u, h1, h2, hv, hu⟩, fun x H2 y => ?_⟩
  obtain ⟨T, x1, y1, ex, nT, eH, f1, f2⟩ := y
  have e1 := Option.some.inj ((f1 _ h1).symm.trans hv)
  have e2 := Option.some.inj ((f2 _ h2).symm.trans hu)
  subst ex e1 e2 eH
  have r2 := g.new (o := .tup [x1, y1]) nT
  refine ⟨r2, .tup (.inl (.inl (hid_of (g.fresh nT) upd_same))) ?_⟩
  refine g.dens r2 (.cons (Den.sub (rec_sub g r) _ _ dv) (.cons (Den.sub (rec_sub g r) _ _ du) .nil))
theorem ei_zip (h : EvA K B tr Γ fun ds => ∃ xs ys, (ds = [.lst xs, .lst ys] ∨ ds = [.tup xs, .tup ys]) ∧ PI (zipD xs ys)) : EvI K B (iZipA K tr) Γ PI := fun M σ H Rk g x q =>
  h M σ H _ g x fun vs H1 ds r ⟨xs, ys, e, p⟩ dn => by
    rcases e with e | e
    · subst e
      cases dn with
      | cons d1 d2 =>
        cases d2 with
        | cons d2 d3 =>
          cases d3
          cases d1 with
          | lst a1 a2 =>
            cases d2 with
            | lst b1 b2 =>
              refine ⟨_, _, _, _, rfl, .inl ⟨SqL.of (hid_get a1).2, SqL.of (hid_get b1).2, q _ H1 _ r p fun M' s1 s2 => ?_⟩⟩
              have up : ∀ {a : Addr} {o : HO}, hid M H1 a = some o → hid M' H1 a = some o := fun {a o} ha => hid_of (fun z => by
                rcases s2 _ z with z | z
                · exact (hid_get ha).1 z
                · rw [(hid_get ha).2] at z; cases z) (hid_get ha).2
              exact wk_zip (up a1) (dens_up s2 a2) (up b1) (dens_up s2 b2)
    · subst e
      cases dn with
      | cons d1 d2 =>
        cases d2 with
        | cons d2 d3 =>
          cases d3
          cases d1 with
          | tup a1 a2 =>
            cases d2 with
            | tup b1 b2 => exact ⟨_, _, _, _, rfl, .inr ⟨SqT.sub hid_sub a1, SqT.sub hid_sub b1, q _ H1 _ r p fun M' s1 s2 => wk_zipT (sqT_up s2 a1) (dens_up s2 a2) (sqT_up s2 b1) (dens_up s2 b2)⟩⟩
/-! ### built-ins -/
def lenD : D → Option Nat
  | .str x => if x.length ≤ sizeLine then some x.length else none
  | .lst ds => some ds.length
  | .tup ds => some ds.length
  | _ => none
theorem ev_len (h : EvA K B tr Γ fun ds => ∃ d n, ds = [d] ∧ lenD d = some n ∧ P (.int (n : Nat))) : Ev K B (tCB (fun xs H Q => ∃ x n, xs = [x] ∧ LenV K x H n ∧ Q (.int n) H) tr) Γ P := fun M σ H Q g x q =>
  h M σ H _ g x fun vs H1 ds r ⟨d, n, e, hn, p⟩ dn => by
    subst e
    cases dn with
    | cons d1 d2 =>
      cases d2
      refine ⟨_, n, rfl, ?_, q _ H1 _ r p (.int _)⟩
      cases d1 with
      | str y =>
        have hn' : (if y.length ≤ sizeLine then some y.length else none) = some n := hn
        by_cases hl : y.length ≤ sizeLine
        · rw [if_pos hl] at hn'
          exact ⟨hl, (Option.some.inj hn').symm⟩
        · rw [if_neg hl] at hn'; cases hn'
      | lst a1 a2 => exact .inl ⟨_, SqL.of (hid_get a1).2, by rw [← a2.length]; exact (Option.some.inj hn).symm⟩
      | tup a1 a2 => exact .inr ⟨_, SqT.sub hid_sub a1, by rw [← a2.length]; exact (Option.some.inj hn).symm⟩
      | _ => cases hn
theorem dens_bl {H : Hp} : ∀ {bs : List Bool} {vs : List V}, DenAll K H (bs.map D.bl) vs → vs = bs.map V.bl
  | [], _, h => by cases h; rfl
  | c :: bs, _, h => by
    cases h with
    | cons h1 h2 =>
      cases h1
      rw [List.map_cons, dens_bl h2]
theorem dens_str {H : Hp} : ∀ {bs : List Str} {vs : List V}, DenAll K H (bs.map D.str) vs → vs = bs.map V.str
  | [], _, h => by cases h; rfl
  | c :: bs, _, h => by
    cases h with
    | cons h1 h2 =>
      cases h1
      rw [List.map_cons, dens_str h2]
theorem ev_all (h : EvA K B tr Γ fun ds => ∃ bs : List Bool, ds = [.lst (bs.map D.bl)] ∧ P (.bl (bs.all id))) : Ev K B (tCB (rAll K) tr) Γ P := fun M σ H Q g x q =>
  h M σ H _ g x fun vs H1 ds r ⟨bs, e, p⟩ dn => by
    subst e
    cases dn with
    | cons d1 d2 =>
      cases d2
      cases d1 with
      | lst a1 a2 =>
        have e := dens_bl a2
        subst e
        exact ⟨_, bs, rfl, SqL.of (hid_get a1).2, q _ H1 _ r p (.bl _)⟩
theorem ev_any (h : EvA K B tr Γ fun ds => ∃ bs : List Bool, ds = [.lst (bs.map D.bl)] ∧ P (.bl (bs.any id))) : Ev K B (tCB (rAny K) tr) Γ P := fun M σ H Q g x q =>
  h M σ H _ g x fun vs H1 ds r ⟨bs, e, p⟩ dn => by
    subst e
    cases dn with
    | cons d1 d2 =>
      cases d2
      cases d1 with
      | lst a1 a2 =>
        have e := dens_bl a2
        subst e
        exact ⟨_, bs, rfl, SqL.of (hid_get a1).2, q _ H1 _ r p (.bl _)⟩
/-- sep.join(list of texts) -/
theorem ev_join (h : Ev K B ta Γ fun d => ∃ a, d = .str a ∧ Ev K B tb Γ fun e => ∃ ys : List Str, (e = .lst (ys.map D.str) ∨ e = .tup (ys.map D.str)) ∧ (ys.map (·.length)).sum + ys.length * a.length ≤ 16777216 ∧ P (.str (Txt.join a ys))) :
    Ev K B (tM1 (fun x xs H Q => ∃ a p, ∃ ys : List Str, x = .str a ∧ xs = [.ref p] ∧ (SqL K H p (ys.map V.str) ∨ SqT K H p (ys.map V.str)) ∧ (ys.map (·.length)).sum + ys.length * a.length ≤ 16777216 ∧ Q (.str (Txt.join a ys)) H) ta tb) Γ P := fun M σ H Q g x q =>
  h M σ H _ g x fun v H1 d r ⟨a, e, p⟩ dn => by
    subst e; cases dn
    refine ⟨⟨a, rfl⟩, p M σ H1 _ (g.r r) (x.r g r) fun u H2 e r2 ⟨ys, ey, hz, p2⟩ dn2 => ?_⟩
    rcases ey with ey | ey
    · subst ey
      cases dn2 with
      | lst a1 a2 =>
        have e := dens_str a2
        subst e
        exact ⟨a, _, ys, rfl, rfl, .inl (SqL.of (hid_get a1).2), hz, q _ H2 _ (r.trans r2) p2 (.str _)⟩
    · subst ey
      cases dn2 with
      | tup a1 a2 =>
        have e := dens_str a2
        subst e
        exact ⟨a, _, ys, rfl, rfl, .inr (SqT.sub hid_sub a1), hz, q _ H2 _ (r.trans r2) p2 (.str _)⟩
/-! ### subscripts -/
def itemD : D → D → Option D
  | .lst ds, .int i => atI ds i
  | .tup ds, .int i => atI ds i
  | .str z, .int i => if z.length ≤ sizeLine then (atI z.cps.toList i).map fun c => .str ⟨#[c]⟩ else none
  | _, _ => none
theorem atI_den {H : Hp} {ds : List D} {vs : List V} {i : Int} {d : D} (h : DenAll K H ds vs) (e : atI ds i = some d) : ∃ v, atI vs i = some v ∧ Den K H d v := by
  unfold atI at e ⊢
  rw [h.length] at e
  cases q : ixN vs.length i with
  | none => rw [q] at e; cases e
  | some j =>
    rw [q] at e
    exact h.get (show ds[j]? = some d from e)
theorem ev_ix (h : Ev K B ta Γ fun d => Ev K B tb Γ fun e => ∃ f, itemD d e = some f ∧ P f) : Ev K B (tOp (rIx K) ta tb) Γ P :=
  ev_op (h.mono fun d hd => hd.mono fun e ⟨f, hf, p⟩ => fun M H x y Q g dx dy q => by
    cases dy with
    | int i =>
      cases dx with
      | lst a1 a2 =>
        obtain ⟨v, hv, dv⟩ := atI_den a2 hf
        exact .inl ⟨_, _, i, v, rfl, rfl, SqL.of (hid_get a1).2, hv, q v H f g.refl p dv⟩
      | tup a1 a2 =>
        obtain ⟨v, hv, dv⟩ := atI_den a2 hf
        exact .inr (.inl ⟨_, _, i, v, rfl, rfl, SqT.sub hid_sub a1, hv, q v H f g.refl p dv⟩)
      | str z =>
        have hf' : (if z.length ≤ sizeLine then (atI z.cps.toList i).map fun c => D.str ⟨#[c]⟩ else none) = some f := hf
        by_cases hl : z.length ≤ sizeLine
        · rw [if_pos hl] at hf'
          cases e : atI z.cps.toList i with
          | none => rw [e] at hf'; cases hf'
          | some c =>
            rw [e] at hf'
            have e' := Option.some.inj hf'
            subst e'
            exact .inr (.inr ⟨z, i, c, rfl, rfl, hl, e, q _ H _ g.refl p (.str _)⟩)
        · rw [if_neg hl] at hf'; cases hf'
      | _ => cases hf
    | _ => cases dx <;> cases hf)
/-! ### slices -/
theorem eo_none {PO : Option Int → Prop} (p : PO none) : EvO K B tNoPart Γ PO := fun M σ H Q g x q => q none H g.refl p
theorem eo_some {PO : Option Int → Prop} (h : Ev K B te Γ fun d => ∃ i, d = .int i ∧ PO (some i)) : EvO K B (tPart te) Γ PO := fun M σ H Q g x q =>
  h M σ H _ g x fun v H1 d r ⟨i, e, p⟩ dn => by
    subst e; cases dn
    exact ⟨i, rfl, q _ H1 r p⟩
theorem ev_slS {tl th : TO} (h : Ev K B ta Γ fun d => ∃ z, d = .str z ∧ z.length ≤ sizeLine ∧ EvO K B tl Γ fun lo => EvO K B th Γ fun hi => P (.str (cutS z lo hi))) : Ev K B (tSl rSlS ta tl th) Γ P := fun M σ H Q g x q =>
  h M σ H _ g x fun v H1 d r ⟨z, e, hz, p⟩ dn => by
    subst e; cases dn
    exact p M σ H1 _ (g.r r) (x.r g r) fun lo H2 r2 p2 => p2 M σ H2 _ ((g.r r).r r2) (x.r g (r.trans r2)) fun hi H3 r3 p3 => ⟨z, rfl, hz, q _ H3 _ (r.trans (r2.trans r3)) p3 (.str _)⟩
def cutD (xs : List D) (lo hi : Option Int) : List D := (xs.drop (HT.sIx xs.length 0 lo)).take (HT.sIx xs.length xs.length hi - HT.sIx xs.length 0 lo)
theorem DenAll.drop {H : Hp} : ∀ {ds : List D} {vs : List V} (n : Nat), DenAll K H ds vs → DenAll K H (ds.drop n) (vs.drop n)
  | _, _, 0, h => h
  | [], _, n + 1, h => by cases h; exact .nil
  | d :: ds, _, n + 1, h => by
    cases h with
    | cons h1 h2 => exact DenAll.drop n h2
theorem DenAll.take {H : Hp} : ∀ {ds : List D} {vs : List V} (n : Nat), DenAll K H ds vs → DenAll K H (ds.take n) (vs.take n)
  | _, _, 0, h => .nil
  | [], _, n + 1, h => by cases h; exact .nil
  | d :: ds, _, n + 1, h => by
    cases h with
    | cons h1 h2 => exact .cons h1 (DenAll.take n h2)
theorem ev_slL {tl th : TO} (h : Ev K B ta Γ fun d => ∃ ds, d = .lst ds ∧ EvO K B tl Γ fun lo => EvO K B th Γ fun hi => P (.lst (cutD ds lo hi))) : Ev K B (tSl (rSlL K) ta tl th) Γ P := fun M σ H Q g x q =>
  h M σ H _ g x fun v H1 d r ⟨ds, e, p⟩ dn => by
    subst e
    exact p M σ H1 _ (g.r r) (x.r g r) fun lo H2 r2 p2 => p2 M σ H2 _ ((g.r r).r r2) (x.r g (r.trans r2)) fun hi H3 r3 p3 => by
      have g3 := ((g.r r).r r2).r r3
      have dn3 := (g.r r).den (r2.trans r3) dn
      cases dn3 with
      | @lst _ zs _ a1 a2 =>
        refine ⟨_, _, rfl, SqL.of (hid_get a1).2, fun p hp => ?_⟩
        have r4 := g3.new (o := .lst (cutV zs lo hi)) hp
        refine q _ _ _ ((r.trans (r2.trans r3)).trans r4) p3 (.lst (hid_of (g3.fresh hp) upd_same) (g3.dens r4 ?_))
        unfold cutD cutV
        rw [a2.length]
        exact (a2.drop _).take _
/-! ### + and * of lists -/
theorem ev_cat (h : Ev K B ta Γ fun d => Ev K B tb Γ fun e => ∃ xs ys, d = .lst xs ∧ e = .lst ys ∧ xs.length + ys.length ≤ sizeLine ∧ P (.lst (xs ++ ys))) : Ev K B (tOp rCat ta tb) Γ P :=
  ev_op (h.mono fun d hd => hd.mono fun e ⟨xs, ys, e1, e2, hz, p⟩ => fun M H x y Q g dx dy q => by
    subst e1 e2
    cases dx with
    | lst a1 a2 =>
      cases dy with
      | lst b1 b2 =>
        refine ⟨_, _, _, _, rfl, rfl, (hid_get a1).2, (hid_get b1).2, by rw [← a2.length, ← b2.length]; exact hz, fun p' hp => ?_⟩
        exact q _ _ _ (g.new hp) p (.lst (hid_of (g.fresh hp) upd_same) (g.dens (g.new hp) (a2.app b2))))
theorem den_rep {H : Hp} {ds : List D} {vs : List V} (h : DenAll K H ds vs) : ∀ n : Nat, DenAll K H (List.replicate n ds).flatten (List.replicate n vs).flatten
  | 0 => .nil
  | n + 1 => by
    rw [List.replicate_succ, List.replicate_succ, List.flatten_cons, List.flatten_cons]
    exact h.app (den_rep h n)
theorem ev_rep (h : Ev K B ta Γ fun d => Ev K B tb Γ fun e => ∃ xs k, d = .lst xs ∧ e = .int k ∧ -(2 ^ 63) ≤ k ∧ k < 2 ^ 63 ∧ xs.length * k.toNat ≤ sizeLine ∧ P (.lst (List.replicate k.toNat xs).flatten)) : Ev K B (tOp rRep ta tb) Γ P :=
  ev_op (h.mono fun d hd => hd.mono fun e ⟨xs, k, e1, e2, h1, h2, hz, p⟩ => fun M H x y Q g dx dy q => by
    subst e1 e2
    cases dy
    cases dx with
    | lst a1 a2 =>
      refine ⟨_, _, _, rfl, rfl, (hid_get a1).2, h1, h2, by rw [← a2.length]; exact hz, fun p' hp => ?_⟩
      exact q _ _ _ (g.new hp) p (.lst (hid_of (g.fresh hp) upd_same) (g.dens (g.new hp) (den_rep a2 _))))
/-- text * int -/
def repS (z : Str) (n : Nat) : Str := ⟨(List.replicate n z.cps.toList).flatten.toArray⟩
theorem foldl_cat (xs : Array Nat) : ∀ (n : Nat) (acc : Array Nat), List.foldl (· ++ ·) acc (List.replicate n xs) = (acc.toList ++ (List.replicate n xs.toList).flatten).toArray
  | 0, acc => by simp
  | n + 1, acc => by
    rw [List.replicate_succ, List.foldl_cons, foldl_cat xs n, List.replicate_succ, List.flatten_cons]
    simp
theorem repS_eq (z : Str) (n : Nat) : (⟨(List.replicate n z.cps).foldl (· ++ ·) #[]⟩ : Str) = repS z n := by
  rw [foldl_cat]
  rfl
theorem repS_len (z : Str) (n : Nat) : (repS z n).length = n * z.length := by
  show ((List.replicate n z.cps.toList).flatten.toArray).size = n * z.cps.size
  rw [List.size_toArray, List.length_flatten, List.map_replicate, List.sum_replicate_nat, Array.length_toList]
def rMulS : R2 := fun x y H Q => ∃ z k, x = .str z ∧ y = .int k ∧ 2 ≤ k ∧ k ≤ 1000 ∧ 1 ≤ z.length ∧ z.length ≤ 1000 ∧ Q (.str (repS z k.toNat)) H
theorem tooLong_small {n : Nat} (h : n ≤ 1000000) : Builtin.Str.tooLong n = false := by
  unfold Builtin.Str.tooLong
  first
    | exact decide_eq_false (by have := sizeLine_eq; omega)
    | (simp; have := sizeLine_eq; omega)
theorem op_mulS {X : Cx} : OpR X (binaryOp .Mult) rMulS := by
  intro pins s σ H x y v u Q I rx ry h
  obtain ⟨z, k, rfl, rfl, h1, h2, h3, h4, q⟩ := h
  obtain ⟨t, rfl⟩ := rx
  obtain ⟨t', rfl⟩ := ry
  have hk : k.toNat ≤ 1000 := by omega
  have hm : z.length * k.toNat ≤ 1000000 := Nat.le_trans (Nat.mul_le_mul h4 hk) (by decide)
  refine PySem.P.mul_str (by
      have a1 : ¬ k < -(2 ^ 63 : Int) := by omega
      have a2 : ¬ k ≥ (2 ^ 63 : Int) := by omega
      rw [decide_eq_false a1, decide_eq_false a2]; rfl) (fun _ _ => ?_) (fun _ _ => tooLong_small hm) ?_
  · have e1 : (1000000 : Int) ≤ (2 ^ 63 - 1) / k := by
      rw [Int.le_ediv_iff_mul_le (by omega)]
      omega
    omega
  · have a0 : ¬ k < 1 := by omega
    rw [if_neg a0]
    have a3 : (k == 1) = false := beq_eq_false_iff_ne.mpr (by omega)
    have a4 : (z.length == 0) = false := beq_eq_false_iff_ne.mpr (by omega)
    rw [if_neg (by rw [a3, a4]; decide)]
    rw [repS_eq]
    refine ⟨?_, .str _, H, I.tok _, ⟨_, rfl⟩, q⟩
    rw [repS_len, Nat.mul_comm]
    exact Nat.le_trans hm (by rw [sizeLine_eq]; decide)
theorem ev_mulS (h : Ev K B ta Γ fun d => Ev K B tb Γ fun e => ∃ z k, d = .str z ∧ e = .int k ∧ 2 ≤ k ∧ k ≤ 1000 ∧ 1 ≤ z.length ∧ z.length ≤ 1000 ∧ P (.str (repS z k.toNat))) : Ev K B (tOp rMulS ta tb) Γ P :=
  ev_op (h.mono fun d hd => hd.mono fun e ⟨z, k, e1, e2, h1, h2, h3, h4, p⟩ => fun M H x y Q g dx dy q => by
    subst e1 e2
    cases dx; cases dy
    exact ⟨z, k, rfl, rfl, h1, h2, h3, h4, q _ H _ g.refl p (.str _)⟩)
/-- one sign in a text -/
theorem ev_in_sign (h : Ev K B ta Γ fun d => Ev K B tb Γ fun e => ∃ (c : Nat) (z : Str), d = .str ⟨#[c]⟩ ∧ e = .str z ∧ P (.bl (decide (c ∈ z.cps.toList)))) :
    Ev K B (tOp (fun x y H Q => ∃ (c : Nat) (z : Str), x = .str ⟨#[c]⟩ ∧ y = .str z ∧ Q (.bl (decide (c ∈ z.cps.toList))) H) ta tb) Γ P :=
  ev_op (h.mono fun d hd => hd.mono fun e ⟨c, z, e1, e2, p⟩ => fun M H x y Q g dx dy q => by
    subst e1 e2
    cases dx; cases dy
    exact ⟨c, z, rfl, rfl, q _ H _ g.refl p (.bl _)⟩)
theorem ev_int1 (h : EvA K B tr Γ fun ds => ∃ i, ds = [.int i] ∧ P (.int i)) : Ev K B (tCB (fun xs H Q => (∃ i, xs = [.int i] ∧ Q (.int i) H) ∨ ∃ k, xs = [.bl k] ∧ Q (.int (if k then 1 else 0)) H) tr) Γ P := fun M σ H Q g x q =>
  h M σ H _ g x fun vs H1 ds r ⟨i, e, p⟩ dn => by
    subst e
    cases dn with
    | cons d1 d2 =>
      cases d2; cases d1
      exact .inl ⟨i, rfl, q _ H1 _ r p (.int _)⟩
/-! ### isinstance -/
def tyD : D → Option String
  | .non => some "NoneType"
  | .bl _ => some "bool"
  | .int _ => some "int"
  | .str _ => some "str"
  | .lst _ => some "list"
  | .tup _ => some "tuple"
  | .dK _ _ => some "dict"
  | _ => none
theorem tyD_ok {H : Hp} {d : D} {x : V} {n : String} {M : List Addr} (h : tyD d = some n) (dx : Den K (hid M H) d x) : TyX K H x (.type n) := by
  cases dx with
  | non => cases h; exact .base .non
  | bl _ => cases h; exact .base (.bl _)
  | int _ => cases h; exact .base (.int _)
  | str _ => cases h; exact .base (.str _)
  | lst a1 _ => cases h; exact .base (.lst (hid_get a1).2)
  | dK a1 _ _ => cases h; exact .base (.dK (hid_get a1).2)
  | tup a1 _ =>
    cases h
    rcases a1 with (a1 | ⟨o, a1⟩) | ⟨o, its, n, hk, hc, _⟩
    · exact .base (.tup (hid_get a1).2)
    · exact .fTuple (hid_get a1).2
    · exact .kTuple hk hc
  | _ => cases h
theorem ev_isi (h : EvA K B tr Γ fun ds => ∃ d n m k, ds = [d, .ty m] ∧ tyD d = some n ∧ kitB n m = some k ∧ P (.bl k)) : Ev K B (tCB (rIsi K) tr) Γ P := fun M σ H Q g x q =>
  h M σ H _ g x fun vs H1 ds r ⟨d, n, m, k, e, hn, hk, p⟩ dn => by
    subst e
    cases dn with
    | cons d1 d2 =>
      cases d2 with
      | cons d2 d3 =>
        cases d3
        cases d2
        exact ⟨_, _, _, _, k, rfl, .ty m, tyD_ok hn d1, kit_ty hk, q _ H1 _ r p (.bl _)⟩
def kitAll (n : String) : List String → Option Bool
  | [] => some false
  | m :: ms => match kitB n m with
    | some true => some true
    | some false => kitAll n ms
    | none => none
theorem kitAll_ok {n : String} : ∀ {ms : List String} {k : Bool}, kitAll n ms = some k → PySem.W.kitAny K (.type n) (ms.map Value.type) = some k
  | [], k, h => by cases h; exact kitAny_nil
  | m :: ms, k, h => by
    unfold kitAll at h
    cases q : kitB n m with
    | none => rw [q] at h; cases h
    | some c =>
      rw [q] at h
      cases c with
      | true => cases h; exact kitAny_cons (kit_ty q) (fun z => by cases z) fun _ => rfl
      | false => exact kitAny_cons (kit_ty q) (fun _ => kitAll_ok h) fun z => by cases z
theorem dens_ty {H : Hp} : ∀ {ms : List String} {vs : List V}, DenAll K H (ms.map D.ty) vs → Paired ClsV vs (ms.map Value.type)
  | [], _, h => by cases h; exact .nil
  | m :: ms, _, h => by
    cases h with
    | cons h1 h2 =>
      cases h1
      exact .cons (.ty m) (dens_ty h2)
/-- isinstance(x, (T1, T2)): the tuple is made on the way -/
theorem ev_isiT {tq : TA} (h : Ev K B ta Γ fun d => ∃ n k ms, tyD d = some n ∧ kitAll n ms = some k ∧ P (.bl k) ∧ EvA K B tq Γ fun ds => ds = ms.map D.ty ∧ ds.length ≤ sizeLine) :
    Ev K B (tCB (rIsiT K) (tCons ta (tCons (tTup tq) tNil))) Γ P := fun M σ H Q g x q =>
  h M σ H _ g x fun v H1 d r ⟨n, k, ms, hn, hk, p, hq⟩ dn => hq M σ H1 _ (g.r r) (x.r g r) fun vs H2 ds r2 ⟨e, hz⟩ dn2 => by
    subst e
    refine ⟨by rw [← dn2.length]; exact hz, fun p' hp => ?_⟩
    have g2 := (g.r r).r r2
    have r3 := g2.new (o := .tup vs) hp
    exact ⟨v, p', vs, _, _, k, rfl, upd_same, dens_ty dn2, tyD_ok hn ((g.r r).den (r2.trans r3) dn), kitAll_ok hk, q _ _ _ (r.trans (r2.trans r3)) p (.bl _)⟩
end
end DL

set_option maxHeartbeats 2000000
namespace DL
open PySem PySem.Spec PyProof.Rows L2 RZ
/-- the names' data at a def's entry -/
def startG (n : Nat) (ds : List D) : Gam := ds.map some ++ List.replicate (n - ds.length) none
theorem run_body {K : PySem.W.Frag} {B : Bx} {M : List Addr} {H : Hp} {t : TS} {N : List Str} {ds : List D} {vs : List V} {P : D → Prop} {Q : VK} (g : Good K B M H) (hd : DenAll K (hid M H) ds vs) (q : ∀ v H' d, R K B H H' → P d → Den K (hid M H') d v → Q v H')
    (h : Rn K B t (startG N.length ds) { nx := fun _ => P .non, rt := P }) : t { nx := fun _ H' => Q .non H', rt := Q } (L2.start N vs) H := by
  refine h M (L2.start N vs) H _ g ⟨?_, fun i d e => ?_⟩ (fun σ' H' Γ' r p _ => q _ H' _ r p .non) (fun v H' d r p dn => q v H' d r p dn) (fun _ _ _ _ p => False.elim p) fun _ _ _ _ p => False.elim p
  · unfold L2.start startG
    rw [List.length_append, List.length_append, List.length_map, List.length_map, List.length_replicate, List.length_replicate, hd.length]
  · unfold startG at e
    unfold L2.start
    by_cases hi : i < ds.length
    · rw [List.getElem?_append_left (by rw [List.length_map]; exact hi), List.getElem?_map] at e
      cases q : ds[i]? with
      | none => rw [q] at e; cases e
      | some d' =>
        rw [q] at e
        have e' : d' = d := Option.some.inj (Option.some.inj e)
        subst e'
        obtain ⟨v, hv, dv⟩ := hd.get q
        refine ⟨v, ?_, dv⟩
        rw [List.getElem?_append_left (by rw [List.length_map, ← hd.length]; exact hi), List.getElem?_map, hv]
        rfl
    · rw [List.getElem?_append_right (by rw [List.length_map]; omega), List.getElem?_replicate] at e
      split at e <;> cases e
/-! ### isinstance, short -/
def baseD : D → Bool
  | .non => true
  | .bl _ => true
  | .int _ => true
  | .str _ => true
  | .lst _ => true
  | .tup _ => true
  | .dK _ _ => true
  | _ => false
inductive Tn where
  | str | int | bool | list | tuple | dict
def Tn.s : Tn → String
  | .str => "str" | .int => "int" | .bool => "bool" | .list => "list" | .tuple => "tuple" | .dict => "dict"
inductive Kd where
  | non | bool | int | str | list | tuple | dict
def Kd.s : Kd → String
  | .non => "NoneType" | .bool => "bool" | .int => "int" | .str => "str" | .list => "list" | .tuple => "tuple" | .dict => "dict"
def isK : Tn → Kd → Bool
  | .bool, .bool => true
  | .int, .bool => true
  | .int, .int => true
  | .str, .str => true
  | .list, .list => true
  | .tuple, .tuple => true
  | .dict, .dict => true
  | _, _ => false
def kdD : D → Kd
  | .bl _ => .bool
  | .int _ => .int
  | .str _ => .str
  | .lst _ => .list
  | .tup _ => .tuple
  | .dK _ _ => .dict
  | _ => .non
def isA (m : Tn) (d : D) : Bool := isK m (kdD d)
theorem kit_tab : ∀ (k : Kd) (m : Tn), kitB k.s m.s = some (isK m k) := by
  intro k m
  cases k <;> cases m <;> decide +kernel
theorem tyD_kd {d : D} (h : baseD d = true) : tyD d = some (kdD d).s := by
  cases d <;> first
    | (cases h; done)
    | rfl
theorem isi_ok {m : Tn} {d : D} (h : baseD d = true) : ∃ n, tyD d = some n ∧ kitB n m.s = some (isA m d) := ⟨_, tyD_kd h, kit_tab _ m⟩
theorem isi2_ok {m m' : Tn} {d : D} (h : baseD d = true) : ∃ n, tyD d = some n ∧ kitAll n [m.s, m'.s] = some (isA m d || isA m' d) := by
  refine ⟨_, tyD_kd h, ?_⟩
  unfold kitAll isA
  rw [kit_tab]
  cases isK m (kdD d) with
  | true => rfl
  | false =>
    unfold kitAll
    rw [kit_tab]
    cases isK m' (kdD d) <;> rfl
section
variable {K : PySem.W.Frag} {B : Bx} {Γ : Gam} {ta : TE} {tr : TA} {P : D → Prop}
theorem ev_is (h : EvA K B tr Γ fun ds => ∃ d m, ds = [d, .ty (Tn.s m)] ∧ baseD d = true ∧ P (.bl (isA m d))) : Ev K B (tCB (rIsi K) tr) Γ P :=
  ev_isi fun M σ H Q g x q => h M σ H Q g x fun vs H' ds r ⟨d, m, e, hb, p⟩ dn => by
    obtain ⟨n, h1, h2⟩ := isi_ok (m := m) hb
    exact q vs H' ds r ⟨d, n, m.s, isA m d, e, h1, h2, p⟩ dn
theorem ev_is2 {m m' : Tn} (h : Ev K B ta Γ fun d => baseD d = true ∧ P (.bl (isA m d || isA m' d))) :
    Ev K B (tCB (rIsiT K) (tCons ta (tCons (tTup (tCons (tC (.ty m.s)) (tCons (tC (.ty m'.s)) tNil))) tNil))) Γ P :=
  ev_isiT (h.mono fun d ⟨hb, p⟩ => by
    obtain ⟨n, h1, h2⟩ := isi2_ok (m := m) (m' := m') hb
    exact ⟨n, _, [m.s, m'.s], h1, h2, p, ea_cons (ev_ty (ea_cons (ev_ty (ea_nil ⟨rfl, by show 2 ≤ sizeLine; rw [sizeLine_eq]; decide⟩))))⟩)
theorem ev_strlit (h : Ev K B ta Γ P) : Ev K B ta Γ P := h
end
theorem iT {c : Bool} {A B : Prop} (h : c = true) (a : A) : if c = true then A else B := by rw [if_pos h]; exact a
theorem iF {c : Bool} {A B : Prop} (h : c = false) (a : B) : if c = true then A else B := by rw [if_neg (by rw [h]; decide)]; exact a
theorem i2 {c : Bool} {A B : Prop} (a : c = true → A) (b : c = false → B) : if c = true then A else B := by
  cases c with
  | true => rw [if_pos rfl]; exact a rfl
  | false => rw [if_neg Bool.false_ne_true]; exact b rfl
section
variable {K : PySem.W.Frag} {B : Bx} {Γ : Gam} {te ta tb tc : TE} {tr : TA} {P : D → Prop} {wi : TI} {g : TG}
theorem et_yes {PT : Bool → Prop} (p : PT true) : EvT K B tYes Γ PT := fun M σ H Q g x q => q true H g.refl p
theorem EvG.mono {vs : List Nat} {d : D} {P P' : Gam → Prop} (h : EvG K B g vs Γ d P) (e : ∀ Γ', P Γ' → P' Γ') : EvG K B g vs Γ d P' := fun M σ H v Q g x dn q => h M σ H v Q g x dn fun σ' Γ' p => q σ' Γ' (e Γ' p)
theorem EvI.mono {P P' : List D → Prop} (h : EvI K B wi Γ P) (e : ∀ ds, P ds → P' ds) : EvI K B wi Γ P' := fun M σ H R g x q => h M σ H R g x fun J H' ds r p => q J H' ds r (e ds p)
theorem EvA.mono {P P' : List D → Prop} (h : EvA K B tr Γ P) (e : ∀ ds, P ds → P' ds) : EvA K B tr Γ P' := fun M σ H R g x q => h M σ H R g x fun J H' ds r p => q J H' ds r (e ds p)
theorem ev_lc_filter {tt : TT} {vs : List Nat} (hi : EvI K B wi Γ fun ds => ds.length < sizeLine ∧ ∃ (f : D → D) (c : D → Bool),
    (∀ d, d ∈ ds → EvG K B g vs (wipeG Γ vs) d fun Γ' => EvT K B tt Γ' fun k => k = c d ∧ (k = true → Ev K B te Γ' fun e => e = f d)) ∧ P (.lst ((ds.filter c).map f))) : Ev K B (tLc wi g tt te vs) Γ P :=
  ev_lc (hi.mono fun ds ⟨hz, f, c, h, p⟩ => by
    refine ⟨hz, fun i acc => acc = ((ds.take i).filter c).map f, rfl, fun i d acc hd ha _ => ?_, fun acc ha _ => ?_⟩
    · subst ha
      have e1 : ds.take (i + 1) = ds.take i ++ [d] := by rw [List.take_add_one, hd]; rfl
      refine (h d (List.mem_of_getElem? hd)).mono fun Γ' p1 => p1.mono fun k ⟨ek, p2⟩ => ?_
      cases k with
      | true =>
        refine iT rfl ((p2 rfl).mono fun e ee => ?_)
        subst ee
        show _ = ((ds.take (i + 1)).filter c).map f
        rw [e1, List.filter_append, List.map_append]
        congr 1
        rw [List.filter_cons, if_pos ek.symm]
        rfl
      | false =>
        refine iF rfl ?_
        show _ = ((ds.take (i + 1)).filter c).map f
        rw [e1, List.filter_append, List.map_append, List.filter_cons, if_neg (by rw [← ek]; decide)]
        simp
    · subst ha
      rw [List.take_length]
      exact p)
theorem ev_lc_map {vs : List Nat} (hi : EvI K B wi Γ fun ds => ds.length < sizeLine ∧ ∃ f : D → D,
    (∀ d, d ∈ ds → EvG K B g vs (wipeG Γ vs) d fun Γ' => Ev K B te Γ' fun e => e = f d) ∧ P (.lst (ds.map f))) : Ev K B (tLc wi g tYes te vs) Γ P :=
  ev_lc_filter (hi.mono fun ds ⟨hz, f, h, p⟩ => by
    refine ⟨hz, f, fun _ => true, fun d hd => (h d hd).mono fun Γ' p => et_yes ⟨rfl, fun _ => p⟩, ?_⟩
    rw [List.filter_eq_self.mpr fun _ _ => rfl]
    exact p)
end
theorem lenD_str {z : Str} (h : z.length ≤ 1000) : lenD (.str z) = some z.length := by
  show (if z.length ≤ sizeLine then some z.length else none) = _
  rw [if_pos (by rw [sizeLine_eq]; omega)]
theorem charsD_len (z : Str) : (charsD z).length = z.length := by unfold charsD; rw [List.length_map, Array.length_toList]; rfl
theorem mem_charsD {z : Str} {d : D} (h : d ∈ charsD z) : ∃ c, c ∈ z.cps.toList ∧ d = .str ⟨#[c]⟩ := by
  unfold charsD at h
  obtain ⟨c, hc, e⟩ := List.mem_map.mp h
  exact ⟨c, hc, e.symm⟩
end DL

set_option maxHeartbeats 4000000
namespace K01
open PySem PySem.Spec PyProof.Rows L2 RZ DL
local macro_rules | `(tactic| walk_at "dl1") => `(tactic| first
  | with_reducible refine rn_seq ?_
  | with_reducible refine rn_if ?_
  | with_reducible refine rn_ret ?_
  | with_reducible refine rn_set ?_
  | with_reducible refine rn_drop ?_
  | with_reducible refine rn_next ?_
  | with_reducible refine et_test ?_
  | with_reducible refine et_B ?_
  | with_reducible refine et_not ?_
  | with_reducible refine et_and ?_
  | with_reducible refine et_or ?_
  | ((with_reducible refine' ev_var ?k1 ?_); (case k1 => exact rfl))
  | with_reducible refine ev_int ?_
  | with_reducible refine ev_str ?_
  | with_reducible refine ev_bl ?_
  | with_reducible refine ev_non ?_
  | with_reducible refine ev_ty ?_
  | with_reducible refine ea_nil ?_
  | with_reducible refine ea_cons ?_
  | with_reducible refine ev_andV ?_
  | with_reducible refine ev_orV ?_
  | with_reducible refine ev_notV ?_
  | with_reducible refine ev_chain ?_
  | with_reducible refine ev_len ?_
  | with_reducible refine ev_all ?_
  | with_reducible refine ev_join ?_
  | with_reducible refine ev_I0 ?_
  | with_reducible refine ev_B0 ?_
  | with_reducible refine ev_I ?_
  | with_reducible refine ev_eq ?_
  | with_reducible refine ev_ne ?_
  | with_reducible refine ev_isN ?_
  | with_reducible refine ev_notN ?_
  | with_reducible refine ev_tup ?_
  | with_reducible refine ev_lst ?_
  | with_reducible refine ev_ix ?_
  | with_reducible refine ev_cat ?_
  | with_reducible refine ev_rep ?_
  | with_reducible refine ev_mulS ?_
  | with_reducible refine ev_add_str ?_
  | with_reducible refine ev_slS ?_
  | with_reducible refine ev_slL ?_
  | with_reducible refine eo_none ?_
  | with_reducible refine eo_some ?_
  | with_reducible refine ev_in_sign ?_
  | with_reducible refine ev_is ?_
  | refine ev_is2 (m := .list) (m' := .tuple) ?_
  | with_reducible refine ev_call ?_)
local macro_rules | `(tactic| walk_at "dl2") => `(tactic| first
  | (refine ⟨_, rfl, ?_⟩; done)
  | (with_reducible refine ⟨_, rfl, ?_⟩)
  | (with_reducible refine ⟨_, _, rfl, rfl, ?_⟩)
  | (refine ⟨_, .str, rfl, rfl, ?_⟩)
  | (refine ⟨_, .int, rfl, rfl, ?_⟩)
  | (refine ⟨_, .bool, rfl, rfl, ?_⟩)
  | (refine ⟨_, .list, rfl, rfl, ?_⟩)
  | (refine ⟨_, .tuple, rfl, rfl, ?_⟩)
  | (refine ⟨rfl, _, rfl, ?_⟩)
  | (refine iT rfl ?_)
  | (refine iF rfl ?_))
def topS (i : Nat) : Stmt := PySem.Challenge.pw_oncethrough_k01_names_and_numbers.main.body.getD i (.Pass ⟨0, 0, 0, 0⟩)
abbrev s_is_name : Stmt := topS 3
abbrev N_is_name : List Str := ["value", "letter"]
theorem sc_is_name : FnScope N_is_name ["value"] (defScope s_is_name) := ⟨rfl, rfl, rfl, by decide +kernel, rfl, by decide +kernel, by decide +kernel⟩
abbrev s_is_number : Stmt := topS 4
abbrev N_is_number : List Str := ["value", "least", "most"]
theorem sc_is_number : FnScope N_is_number ["value", "least", "most"] (defScope s_is_number) := ⟨rfl, rfl, rfl, by decide +kernel, rfl, by decide +kernel, by decide +kernel⟩
abbrev s__law_box : Stmt := topS 6
abbrev N__law_box : List Str := ["_law_script", "_law_mixed", "_law_cell"]
theorem sc__law_box : FnScope N__law_box ["_law_script"] (defScope s__law_box) := ⟨rfl, rfl, rfl, by decide +kernel, rfl, by decide +kernel, by decide +kernel⟩
abbrev s__law_pull : Stmt := topS 7
abbrev N__law_pull : List Str := ["_law_box_here", "_law_many", "_law_cell", "_law_digit", "_law_twice"]
theorem sc__law_pull : FnScope N__law_pull ["_law_box_here", "_law_many"] (defScope s__law_pull) := ⟨rfl, rfl, rfl, by decide +kernel, rfl, by decide +kernel, by decide +kernel⟩
abbrev s__law_of : Stmt := topS 8
abbrev N__law_of : List Str := ["_law_box_here", "_law_some"]
theorem sc__law_of : FnScope N__law_of ["_law_box_here", "_law_some"] (defScope s__law_of) := ⟨rfl, rfl, rfl, by decide +kernel, rfl, by decide +kernel, by decide +kernel⟩
abbrev s__law_same : Stmt := topS 9
abbrev N__law_same : List Str := ["_law_found", "_law_due", "_law_a", "_law_b"]
theorem sc__law_same : FnScope N__law_same ["_law_found", "_law_due"] (defScope s__law_same) := ⟨rfl, rfl, rfl, by decide +kernel, rfl, by decide +kernel, by decide +kernel⟩
structure Txt (K : PySem.W.Frag) (mg : Str → Option Value) (a_is_name a_is_number a__law_box a__law_pull a__law_of a__law_same : Addr) (t_LETTERS t_LONGEST_NAME : Tok) : Prop where
  m_is_name : mg "is_name" = some (.ref a_is_name)
  m_is_number : mg "is_number" = some (.ref a_is_number)
  m__law_box : mg "_law_box" = some (.ref a__law_box)
  m__law_pull : mg "_law_pull" = some (.ref a__law_pull)
  m__law_of : mg "_law_of" = some (.ref a__law_of)
  m__law_same : mg "_law_same" = some (.ref a__law_same)
  c_LETTERS : mg "LETTERS" = some (.str "abcdefghijklmnopqrstuvwxyz" t_LETTERS)
  c_LONGEST_NAME : mg "LONGEST_NAME" = some (.int 6 t_LONGEST_NAME)
  n_abs : mg "abs" = none
  n_all : mg "all" = none
  n_bool : mg "bool" = none
  n_int : mg "int" = none
  n_isinstance : mg "isinstance" = none
  n_len : mg "len" = none
  n_list : mg "list" = none
  n_range : mg "range" = none
  n_str : mg "str" = none
  n_tuple : mg "tuple" = none
  n_zip : mg "zip" = none
section
variable {P : Program} {w : World} {K : PySem.W.Frag} {mg : Str → Option Value} {base : Heap} {a_is_name a_is_number a__law_box a__law_pull a__law_of a__law_same a_law : Addr} {t_LETTERS t_LONGEST_NAME : Tok}
/-- a name: 1 to 6 of the letters -/
def lettersL : List Nat := (("abcdefghijklmnopqrstuvwxyz" : Str).cps.toList)
def isNameS (z : Str) : Bool := decide (1 ≤ z.length) && decide (z.length ≤ 6) && z.cps.toList.all fun c => decide (c ∈ lettersL)
def isNameD : D → Bool
  | .str z => isNameS z
  | _ => false
theorem ok_is_name {fd : FuncData} (F : Fun K "is_name" "is_name" s_is_name a_is_name fd) (T : Txt K mg a_is_name a_is_number a__law_box a__law_pull a__law_of a__law_same t_LETTERS t_LONGEST_NAME) : FnOk P w K mg base CX0 1 a_is_name fd ["value"] (SpD K 1 fun _ ds P => ∃ d, ds = [d] ∧ baseD d = true ∧ (∀ z, d = .str z → z.length ≤ 1000) ∧ P (.bl (isNameD d))) := by
  refine F.ok sc_is_name (fun vs H Q E h => h.1) (fun cdv A outer s H vs Q E hr h => ?_)
  obtain ⟨hl, B, M, ds, Pd, g, hd, ⟨d, rfl, hb, hz, p⟩, q⟩ := h
  refine ⟨_, (pss_cons (ps_if (PW.pt (pw_or (pt_not (pt_val (pe_callB call_isi (by rfl) T.n_isinstance (by decide +kernel) (pa_cons (pv 0) (pa_cons (pe_bltn (v := .ty "str") (u := .type "str") (by rfl) T.n_str (by decide +kernel) rfl) pa_nil))))) (pw_or1 (pt_not (pt_chain op_le op_le pe_int (pe_callB call_len (by rfl) T.n_len PySem.boot_len (pa_cons (pv 0) pa_nil)) (pe_glob (v := .int 6) (by rfl) T.c_LONGEST_NAME ⟨_, rfl⟩))))))
 (pss_one (ps_ret pe_bl))
 pss_nil)
 (pss_one (ps_ret (pe_callB (cr_all rfl) (by rfl) T.n_all (by decide +kernel) (pa_cons (pe_lc (own := [("letter", 1)]) (g := (gName 1)) (tt := tYes) (by rfl) sc_is_name.nd (pi_str (pv 0)) (blkOk_by (own := [("letter", 1)]) (N := N_is_name) (sc := defScope s_is_name) (by decide +kernel)) (fun _ _ _ _ _ => (pg_name (i := 1) sc_is_name.nd rfl (Or.inl rfl))) (fun _ _ _ _ _ => pts_nil) (fun _ _ _ _ _ => (pe_cmpR op_in_sign (pv 1) (pe_glob (v := .str "abcdefghijklmnopqrstuvwxyz") (by rfl) T.c_LETTERS ⟨_, rfl⟩) rfl))) pa_nil))))), ?_⟩
  refine run_body g hd q ?_
  dsimp only [cxOf]
  cases d with
  | str z =>
    repeat first | walk_at "dl1" | walk_at "dl2"
    have hz1 := hz z rfl
    refine ⟨_, _, rfl, lenD_str hz1, ⟨_, ch_int, ?_⟩⟩
    refine i2 (fun c1 => ?_) (fun c1 => ?_)
    · repeat first | walk_at "dl1" | walk_at "dl2"
      refine ⟨_, ch_int, ⟨_, rfl, i2 (fun c2 => ?_) (fun c2 => ?_)⟩⟩
      · repeat first | walk_at "dl1" | walk_at "dl2"
        have e : isNameD (.str z) = false := by
          show isNameS z = false
          unfold isNameS
          simp at c2 ⊢
          omega
        rw [e] at p
        exact p
      · repeat first | walk_at "dl1" | walk_at "dl2"
        refine ev_lc_map (ei_str (ev_var rfl ⟨z, rfl, ?_, fun d => match d with
          | .str c => .bl (decide (c.cps.toList.getD 0 0 ∈ lettersL))
          | _ => .non, fun d hd => ?_, ?_⟩))
        · rw [charsD_len, sizeLine_eq]; omega
        · obtain ⟨c, hc, rfl⟩ := mem_charsD hd
          refine eg_name (by decide) ?_
          repeat first | walk_at "dl1" | walk_at "dl2"
          exact rfl
        · repeat first | walk_at "dl1" | walk_at "dl2"
          refine ⟨z.cps.toList.map fun c => decide (c ∈ lettersL), ?_, ?_⟩
          · congr 2
            unfold charsD
            rw [List.map_map, List.map_map]
            rfl
          · have e : isNameD (.str z) = (z.cps.toList.map fun c => decide (c ∈ lettersL)).all id := by
              show isNameS z = _
              unfold isNameS
              rw [List.all_map]
              have h1 : decide (1 ≤ z.length) = true := decide_eq_true (by have := of_decide_eq_true c1; omega)
              have h2 : decide (z.length ≤ 6) = true := decide_eq_true (by simp at c2; omega)
              rw [h1, h2]
              rfl
            rw [e] at p
            exact p
    · repeat first | walk_at "dl1" | walk_at "dl2"
      have e : isNameD (.str z) = false := by
        show isNameS z = false
        unfold isNameS
        simp at c1 ⊢
        omega
      rw [e] at p
      exact p
  | _ => first
    | (cases hb; done)
    | (repeat first | walk_at "dl1" | walk_at "dl2"
       exact p)

def isNumD : D → Int → Int → Bool
  | .int i, lo, hi => decide (lo ≤ i) && decide (i ≤ hi)
  | _, _, _ => false
theorem ok_is_number {fd : FuncData} (F : Fun K "is_number" "is_number" s_is_number a_is_number fd) (T : Txt K mg a_is_name a_is_number a__law_box a__law_pull a__law_of a__law_same t_LETTERS t_LONGEST_NAME) : FnOk P w K mg base CX0 1 a_is_number fd ["value", "least", "most"] (SpD K 3 fun _ ds P => ∃ d lo hi, ds = [d, .int lo, .int hi] ∧ baseD d = true ∧ P (.bl (isNumD d lo hi))) := by
  refine F.ok sc_is_number (fun vs H Q E h => h.1) (fun cdv A outer s H vs Q E hr h => ?_)
  obtain ⟨hl, B, M, ds, Pd, g, hd, ⟨d, lo, hi, rfl, hb, p⟩, q⟩ := h
  refine ⟨_, (pss_one (ps_ret (pe_and (pe_callB call_isi (by rfl) T.n_isinstance (by decide +kernel) (pa_cons (pv 0) (pa_cons (pe_bltn (v := .ty "int") (u := .type "int") (by rfl) T.n_int (by decide +kernel) rfl) pa_nil))) (pe_and (pe_not (pe_callB call_isi (by rfl) T.n_isinstance (by decide +kernel) (pa_cons (pv 0) (pa_cons (pe_bltn (v := .ty "bool") (u := .type "bool") (by rfl) T.n_bool (by decide +kernel) rfl) pa_nil)))) (pe_one (pe_chain op_le op_le (pv 1) (pv 0) (pv 2))))))), ?_⟩
  refine run_body g hd q ?_
  dsimp only [cxOf]
  cases d with
  | int i =>
    repeat first | walk_at "dl1" | walk_at "dl2"
    refine ⟨_, ch_int, ?_⟩
    refine i2 (fun c1 => ?_) (fun c1 => ?_)
    · repeat first | walk_at "dl1" | walk_at "dl2"
      refine ⟨_, ch_int, ?_⟩
      have e : isNumD (.int i) lo hi = decide (i ≤ hi) := by show (decide (lo ≤ i) && decide (i ≤ hi)) = _; rw [c1]; rfl
      rw [e] at p
      exact p
    · have e : isNumD (.int i) lo hi = false := by show (decide (lo ≤ i) && decide (i ≤ hi)) = _; rw [c1]; rfl
      rw [e] at p
      exact p
  | _ => first
    | (cases hb; done)
    | (repeat first | walk_at "dl1" | walk_at "dl2"
       exact p)
theorem set_at {b : Addr} {xs : List V} {k : Int} {j : Nat} {v : V} {H : Hp} {Q : Hp → Prop} (ys : List V) (hb : H b = some (.lst xs)) (hj : ixN xs.length k = some j) (hy : xs.set j v = ys) (h : ∀ H1, (∀ a, a ≠ b → H1 a = H a) → H1 b = some (.lst ys) → Q H1) : rSetL (.ref b) (.int k) v H Q :=
  ⟨b, xs, k, j, rfl, rfl, hb, hj, h _ (fun a na => upd_ne na) (by rw [upd_same, hy])⟩
theorem seqCut {t u : TS} {D : Ends} {σ : L2.St} {H : Hp} (C : L2.St → Hp → Prop) (h2 : ∀ σ' H', C σ' H' → u D σ' H') (h1 : (∀ σ' H', C σ' H' → u D σ' H') → t { D with nx := u D } σ H) : tSeq t u D σ H := h1 h2
/-- what pull promises -/
def fPull : Bx → List D → (D → Prop) → Prop := fun B ds P => ∃ n : Int, ds = [.obj B.b, .int n] ∧ 0 < n ∧ n < 1073741824 ∧ ∀ k : Int, 0 ≤ k → k < n → P (.int k)
theorem ok__law_pull {fd : FuncData} (F : Fun K "_law_pull" "_law_pull" s__law_pull a__law_pull fd) (T : Txt K mg a_is_name a_is_number a__law_box a__law_pull a__law_of a__law_same t_LETTERS t_LONGEST_NAME) : FnOk P w K mg base CX0 1 a__law_pull fd ["_law_box_here", "_law_many"] (SpD K 2 fPull) := by
  refine F.ok sc__law_pull (fun vs H Q E h => h.1) (fun cdv A outer s H vs Q E hr h => ?_)
  obtain ⟨hl, B, M, ds, Pd, g, hd, ⟨n, rfl, n0, n1, p⟩, q⟩ := h
  refine ⟨_, (pss_cons (ps_asg (pe_op op_add (pe_ix ix_seq (pv 0) pe_int (fun _ _ => rfl)) pe_int) (pg_sub (pv 0) pe_int set_list))
 (pss_cons (ps_if (PW.pt (pw_and (pt_cmpR op_eq (pe_ix ix_seq (pv 0) pe_int (fun _ _ => rfl)) pe_int (nomark _)) (pw_and1 (pt_cmpR op_lt (pe_ix ix_seq (pv 0) pe_int (fun _ _ => rfl)) (pe_callB call_len (by rfl) T.n_len PySem.boot_len (pa_cons (pe_ix ix_seq (pv 0) pe_int (fun _ _ => rfl)) pa_nil)) (nomark _)))))
 (pss_cons (ps_set (i := 2) sc__law_pull.nd rfl (Or.inl rfl) (pe_ix ix_seq (pe_ix ix_seq (pv 0) pe_int (fun _ _ => rfl)) (pe_ix ix_seq (pv 0) pe_int (fun _ _ => rfl)) (fun _ _ => rfl)))
 (pss_cons (ps_asg (pe_op op_add (pe_ix ix_seq (pv 0) pe_int (fun _ _ => rfl)) pe_int) (pg_sub (pv 0) pe_int set_list))
 (pss_one (ps_if (pt_cmpR op_ge (pe_callB call_abs (by rfl) T.n_abs (by decide +kernel) (pa_cons (pv 2) pa_nil)) (pe_op op_pow pe_int pe_int) (nomark _))
 (pss_one (ps_asg (pe_callB call_abs (by rfl) T.n_abs (by decide +kernel) (pa_cons (pv 2) pa_nil)) (pg_sub (pv 0) pe_int set_list)))
 (pss_one (ps_asg (pe_op op_mod (pe_callTy call_int1 (by rfl) T.n_int (by decide +kernel) (pa_cons (pe_op op_add (pe_op op_add (pe_op op_mul (pe_ix ix_seq (pv 0) pe_int (fun _ _ => rfl)) pe_int) (pe_op op_mul (pe_op op_mod (pe_callTy call_int1 (by rfl) T.n_int (by decide +kernel) (pa_cons (pv 2) pa_nil)) pe_int) pe_int)) pe_int) pa_nil)) pe_int) (pg_sub (pv 0) pe_int set_list)))))))
 pss_nil)
 (pss_cons (ps_if (pt_cmpR op_gt (pe_ix ix_seq (pv 0) pe_int (fun _ _ => rfl)) pe_int (nomark _))
 (pss_cons (ps_set (i := 3) sc__law_pull.nd rfl (Or.inl rfl) (pe_op op_mod (pe_callTy call_int1 (by rfl) T.n_int (by decide +kernel) (pa_cons (pe_ix ix_seq (pv 0) pe_int (fun _ _ => rfl)) pa_nil)) (pv 1)))
 (pss_cons (ps_asg (pe_op op_fdivN (pe_ix ix_seq (pv 0) pe_int (fun _ _ => rfl)) (pv 1)) (pg_sub (pv 0) pe_int set_list))
 (pss_one (ps_ret (pv 3)))))
 pss_nil)
 (pss_cons (ps_set (i := 4) sc__law_pull.nd rfl (Or.inl rfl) (pe_op op_mod (pe_callTy call_int1 (by rfl) T.n_int (by decide +kernel) (pa_cons (pe_op op_add (pe_op op_mul (pe_ix ix_seq (pv 0) pe_int (fun _ _ => rfl)) (pe_ix ix_seq (pv 0) pe_int (fun _ _ => rfl))) (pe_op op_mul (pe_ix ix_seq (pv 0) pe_int (fun _ _ => rfl)) pe_int)) pa_nil)) pe_int))
 (pss_cons (ps_asg (pe_op op_mod (pe_callTy call_int1 (by rfl) T.n_int (by decide +kernel) (pa_cons (pe_op op_add (pe_op op_add (pe_op op_mul (pv 4) pe_int) (pe_op op_mul (pe_ix ix_seq (pv 0) pe_int (fun _ _ => rfl)) pe_int)) pe_int) pa_nil)) pe_int) (pg_sub (pv 0) pe_int set_list))
 (pss_one (ps_ret (pe_op op_mod (pe_callTy call_int1 (by rfl) T.n_int (by decide +kernel) (pa_cons (pe_op op_fdivN (pe_ix ix_seq (pv 0) pe_int (fun _ _ => rfl)) pe_int) pa_nil)) (pv 1))))))))), ?_⟩
  dsimp only [cxOf]
  obtain ⟨ns, i, r, m, c, hb, nlb, hL, hn, r0, m0, m1⟩ := id g.box
  cases hd with
  | cons d1 d2 =>
  cases d2 with
  | cons d2 d3 =>
  cases d3
  cases d1
  cases d2
  have fin : ∀ H' (i' : Nat) (r' m' c' k : Int), (∀ a, a ≠ B.b → H' a = H a) → H' B.b = some (.lst [.ref B.l, .int i', .int r', .int m', .int c']) → 0 ≤ r' → 0 ≤ m' → m' < 2147483587 → 0 ≤ k → k < n → Q (.int k) H' := fun H' i' r' m' c' k e1 e2 e3 e4 e5 e6 e7 =>
    q _ H' (.int k) ⟨⟨ns, i', r', m', c', e2, nlb, by rw [e1 _ nlb]; exact hL, hn, e3, e4, e5⟩, fun a o ha na => by rw [e1 a na]; exact ha⟩ (p k e6 e7) (.int k)
  -- the counter
  refine ⟨_, rfl, .inl ⟨_, _, _, _, rfl, rfl, SqL.of hb, rfl, _, _, rfl, rfl, _, rfl, set_at [.ref B.l, .int i, .int r, .int m, .int (c + 1)] hb rfl rfl fun H1 e1 hb1 => ?_⟩⟩
  dsimp only
  have hL1 : H1 B.l = some (.lst (ns.map V.int)) := by rw [e1 _ nlb]; exact hL
  refine seqCut (t := tIfS _ _ _) (fun σ' H' => ∃ (v2 : Option V) (i' : Nat) (r' m' c' : Int), σ' = [some (.ref B.b), some (.int n), v2, none, none] ∧ (∀ a, a ≠ B.b → H' a = H a) ∧ H' B.b = some (.lst [.ref B.l, .int i', .int r', .int m', .int c']) ∧ 0 ≤ r' ∧ 0 ≤ m' ∧ m' < 2147483587) (fun σ' H' hC => ?_) (fun rest => ?_)
  · obtain ⟨v2, i', r', m', c', rfl, e2, hb2, r0', m0', m1'⟩ := hC
    refine ⟨_, rfl, .inl ⟨_, _, _, _, rfl, rfl, SqL.of hb2, rfl, _, _, rfl, rfl, _, rfl, ?_⟩⟩
    refine i2 (fun hr0 => ?_) (fun hr0 => ?_)
    · refine ⟨_, rfl, .inl ⟨_, _, _, _, rfl, rfl, SqL.of hb2, rfl, .inl ⟨_, rfl, ?_⟩⟩⟩
      refine ⟨_, rfl, _, _, rfl, rfl, n0, ?_⟩
      refine ⟨_, rfl, .inl ⟨_, _, _, _, rfl, rfl, SqL.of hb2, rfl, ?_⟩⟩
      refine ⟨_, rfl, _, _, rfl, rfl, ⟨by omega, by omega⟩, ?_⟩
      refine ⟨_, rfl, set_at [.ref B.l, .int i', .int (r'.fdiv n), .int m', .int c'] hb2 rfl rfl fun H3 e3 hb3 => ?_⟩
      refine ⟨_, rfl, ?_⟩
      refine fin _ i' (r'.fdiv n) m' c' (r' % n) (fun a na => (e3 a na).trans (e2 a na)) hb3 ?_ m0' m1' (Int.emod_nonneg _ (by omega)) (Int.emod_lt_of_pos _ n0)
      rw [Int.fdiv_eq_ediv_of_nonneg _ (by omega)]
      exact Int.ediv_nonneg r0' (by omega)
    · -- twice
      refine ⟨_, rfl, .inl ⟨_, _, _, _, rfl, rfl, SqL.of hb2, rfl, ?_⟩⟩
      refine ⟨_, rfl, .inl ⟨_, _, _, _, rfl, rfl, SqL.of hb2, rfl, ?_⟩⟩
      refine ⟨_, _, rfl, rfl, .inl ⟨by omega, by omega⟩, ?_⟩
      refine ⟨_, rfl, .inl ⟨_, _, _, _, rfl, rfl, SqL.of hb2, rfl, ?_⟩⟩
      refine ⟨_, _, rfl, rfl, .inr ⟨by omega, by omega⟩, ?_⟩
      refine ⟨_, _, rfl, rfl, .inl ⟨_, rfl, ?_⟩⟩
      refine ⟨_, _, rfl, rfl, (by show (0 : Int) < _; decide), ?_⟩
      dsimp only
      have t0 : 0 ≤ (m' * m' + c' * 8291) % 2147483543 := Int.emod_nonneg _ (by omega)
      have t1 : (m' * m' + c' * 8291) % 2147483543 < 2147483543 := Int.emod_lt_of_pos _ (by omega)
      generalize (m' * m' + c' * 8291) % 2147483543 = tw at t0 t1
      refine ⟨_, rfl, _, _, rfl, rfl, .inl ⟨by omega, by omega⟩, ?_⟩
      refine ⟨_, rfl, .inl ⟨_, _, _, _, rfl, rfl, SqL.of hb2, rfl, ?_⟩⟩
      refine ⟨_, _, rfl, rfl, .inl ⟨by omega, by omega⟩, ?_⟩
      refine ⟨_, _, rfl, rfl, _, _, rfl, rfl, .inl ⟨_, rfl, ?_⟩⟩
      refine ⟨_, _, rfl, rfl, (by show (0 : Int) < _; decide), ?_⟩
      dsimp only
      have u0 : 0 ≤ (tw * 15907 + m' * 60013 + 53987) % 2147483587 := Int.emod_nonneg _ (by omega)
      have u1 : (tw * 15907 + m' * 60013 + 53987) % 2147483587 < 2147483587 := Int.emod_lt_of_pos _ (by omega)
      generalize (tw * 15907 + m' * 60013 + 53987) % 2147483587 = mm at u0 u1
      refine ⟨_, rfl, set_at [.ref B.l, .int i', .int r', .int mm, .int c'] hb2 rfl rfl fun H3 e3 hb3 => ?_⟩
      refine ⟨_, rfl, .inl ⟨_, _, _, _, rfl, rfl, SqL.of hb3, rfl, ?_⟩⟩
      refine ⟨_, _, rfl, rfl, ⟨by decide, by decide⟩, ?_⟩
      refine .inl ⟨_, rfl, ?_⟩
      refine ⟨_, rfl, _, _, rfl, rfl, n0, ?_⟩
      exact fin _ i' r' mm c' _ (fun a na => (e3 a na).trans (e2 a na)) hb3 r0' u0 u1 (Int.emod_nonneg _ (by omega)) (Int.emod_lt_of_pos _ n0)
  · -- the next item of the script, where one is left
    refine ⟨_, rfl, .inl ⟨_, _, _, _, rfl, rfl, SqL.of hb1, rfl, ?_⟩⟩
    refine ⟨rfl, _, rfl, ?_⟩
    have same : ∀ v2 : Option V, ∃ (v2' : Option V) (i' : Nat) (r' m' c' : Int), [some (V.ref B.b), some (V.int n), v2, none, none] = [some (V.ref B.b), some (V.int n), v2', none, none] ∧ (∀ a, a ≠ B.b → H1 a = H a) ∧ H1 B.b = some (.lst [.ref B.l, .int i', .int r', .int m', .int c']) ∧ 0 ≤ r' ∧ 0 ≤ m' ∧ m' < 2147483587 := fun v2 => ⟨v2, i, r, m, c + 1, rfl, e1, hb1, r0, m0, m1⟩
    refine i2 (fun hr0 => ?_) (fun hr0 => iF rfl (rest _ _ (same none)))
    refine ⟨_, rfl, .inl ⟨_, _, _, _, rfl, rfl, SqL.of hb1, rfl, ?_⟩⟩
    refine ⟨_, rfl, .inl ⟨_, _, _, _, rfl, rfl, SqL.of hb1, rfl, ?_⟩⟩
    refine ⟨_, _, rfl, .inl ⟨_, SqL.of hL1, rfl⟩, _, _, rfl, rfl, _, rfl, ?_⟩
    refine i2 (fun hi => ?_) (fun hi => rest _ _ (same none))
    have hil : i < ns.length := by
      have := of_decide_eq_true hi
      rw [List.length_map] at this
      omega
    refine ⟨_, rfl, .inl ⟨_, _, _, _, rfl, rfl, SqL.of hb1, rfl, ?_⟩⟩
    refine ⟨_, rfl, .inl ⟨_, _, _, _, rfl, rfl, SqL.of hb1, rfl, ?_⟩⟩
    have ha : atI (ns.map V.int) (i : Int) = some (.int ns[i]) := atI_nat (by rw [List.getElem?_map, List.getElem?_eq_getElem hil]; rfl)
    refine .inl ⟨_, _, _, _, rfl, rfl, SqL.of hL1, ha, ?_⟩
    generalize ns[i] = z
    refine ⟨_, rfl, .inl ⟨_, _, _, _, rfl, rfl, SqL.of hb1, rfl, _, _, rfl, rfl, _, rfl, set_at [.ref B.l, .int ((i : Int) + 1), .int r, .int m, .int (c + 1)] hb1 rfl rfl fun H2 e2' hb2 => ?_⟩⟩
    have e2 : ∀ a, a ≠ B.b → H2 a = H a := fun a na => (e2' a na).trans (e1 a na)
    dsimp only
    refine ⟨_, rfl, _, rfl, _, _, rfl, rfl, ⟨by decide, by decide, by decide⟩, _, _, rfl, rfl, _, rfl, ?_⟩
    refine i2 (fun hz => ?_) (fun hz => ?_)
    · refine ⟨_, rfl, _, rfl, ?_⟩
      refine ⟨_, rfl, set_at [.ref B.l, .int ((i : Int) + 1), .int (if z < 0 then -z else z), .int m, .int (c + 1)] hb2 rfl rfl fun H3 e3 hb3 => ?_⟩
      exact rest _ _ ⟨_, i + 1, if z < 0 then -z else z, m, c + 1, rfl, fun a na => (e3 a na).trans (e2 a na), hb3, by split <;> omega, m0, m1⟩
    · refine ⟨_, rfl, .inl ⟨_, _, _, _, rfl, rfl, SqL.of hb2, rfl, ?_⟩⟩
      refine ⟨_, _, rfl, rfl, .inl ⟨by omega, by omega⟩, ?_⟩
      refine ⟨_, rfl, .inl ⟨_, rfl, ?_⟩⟩
      refine ⟨_, _, rfl, rfl, (by show (0 : Int) < _; decide), ?_⟩
      refine ⟨_, _, rfl, rfl, .inr ⟨by omega, by omega⟩, ?_⟩
      refine ⟨_, _, rfl, rfl, _, _, rfl, rfl, .inl ⟨_, rfl, ?_⟩⟩
      refine ⟨_, _, rfl, rfl, (by show (0 : Int) < _; decide), ?_⟩
      dsimp only
      have u0 : 0 ≤ (m * 40093 + z % 1000003 * 727 + 37) % 2147483587 := Int.emod_nonneg _ (by omega)
      have u1 : (m * 40093 + z % 1000003 * 727 + 37) % 2147483587 < 2147483587 := Int.emod_lt_of_pos _ (by omega)
      generalize (m * 40093 + z % 1000003 * 727 + 37) % 2147483587 = mm at u0 u1
      refine ⟨_, rfl, set_at [.ref B.l, .int ((i : Int) + 1), .int r, .int mm, .int (c + 1)] hb2 rfl rfl fun H3 e3 hb3 => ?_⟩
      exact rest _ _ ⟨_, i + 1, r, mm, c + 1, rfl, fun a na => (e3 a na).trans (e2 a na), hb3, r0, u0, u1⟩

/-- what of promises: an item of d -/
def fOf : Bx → List D → (D → Prop) → Prop := fun B ds P => ∃ (d : D) (n : Nat), ds = [.obj B.b, d] ∧ lenD d = some n ∧ 1 ≤ n ∧ n ≤ 1000000 ∧ ∀ k : Nat, k < n → ∃ e, itemD d (.int (k : Int)) = some e ∧ P e
theorem ok__law_of {fd fdp : FuncData} (F : Fun K "_law_of" "_law_of" s__law_of a__law_of fd) (T : Txt K mg a_is_name a_is_number a__law_box a__law_pull a__law_of a__law_same t_LETTERS t_LONGEST_NAME) (F__law_pull : Fun K "_law_pull" "_law_pull" s__law_pull a__law_pull fdp) (b__law_pull : Binds K fdp ["_law_box_here", "_law_many"] []) :
    FnOk P w K mg base CX0 2 a__law_of fd ["_law_box_here", "_law_some"] (SpD K 2 fOf) := by
  have G__law_pull := ok__law_pull (P := P) (w := w) (base := base) F__law_pull T
  refine F.ok sc__law_of (fun vs H Q E h => h.1) (fun cdv A outer s H vs Q E hr h => ?_)
  obtain ⟨hl, B, M, ds, Pd, g, hd, ⟨d, n, rfl, hn, n1, n2, p⟩, q⟩ := h
  refine ⟨_, (pss_one (ps_ret (pe_ix ix_seq (pv 1) (pe_call G__law_pull (hr.mono (by omega)) (by rfl) T.m__law_pull F__law_pull.kp b__law_pull .nil pass0 (pa_cons (pv 0) (pa_cons (pe_callB call_len (by rfl) T.n_len PySem.boot_len (pa_cons (pv 1) pa_nil)) pa_nil))) (fun _ _ => rfl)))), ?_⟩
  refine run_body g hd q ?_
  dsimp only [cxOf]
  repeat first | walk_at "dl1" | walk_at "dl2"
  refine ⟨_, _, rfl, hn, ?_⟩
  repeat first | walk_at "dl1" | walk_at "dl2"
  refine ⟨by omega, by omega, fun k k0 k1 => ?_⟩
  obtain ⟨j, rfl⟩ : ∃ j : Nat, k = (j : Int) := ⟨k.toNat, by omega⟩
  exact p j (by omega)
/-- plain data, nested at most so deep -/
inductive Pl : Nat → D → Prop
  | non {k : Nat} : Pl k .non
  | bl {k : Nat} (b : Bool) : Pl k (.bl b)
  | int {k : Nat} (i : Int) : Pl k (.int i)
  | str {k : Nat} (x : Str) : Pl k (.str x)
  | lst {k : Nat} {ds : List D} (h : ∀ d, d ∈ ds → Pl k d) (hl : ds.length ≤ 100000) : Pl (k + 1) (.lst ds)
  | tup {k : Nat} {ds : List D} (h : ∀ d, d ∈ ds → Pl k d) (hl : ds.length ≤ 100000) : Pl (k + 1) (.tup ds)
def fSame : Nat → Bx → List D → (D → Prop) → Prop
  | 0 => fun _ _ _ => False
  | n + 1 => fun _ ds P => ∃ d, ds = [d, d] ∧ Pl n d ∧ P (.bl true)
theorem zip_self : ∀ {ds : List D} {d : D}, d ∈ zipD ds ds → ∃ x, x ∈ ds ∧ d = .tup [x, x]
  | [], _, h => by simp [zipD] at h
  | x :: xs, d, h => by
    rcases List.mem_cons.mp h with e | h
    · exact ⟨x, List.mem_cons_self, e⟩
    · obtain ⟨y, hy, e⟩ := zip_self h
      exact ⟨y, List.mem_cons_of_mem _ hy, e⟩
theorem all_true {α : Type} (xs : List α) : (xs.map fun _ => true).all id = true := by
  rw [List.all_map]
  exact List.all_eq_true.mpr fun _ _ => rfl
theorem none_sp {f : Addr} {fd : FuncData} {ps : List Str} {n : Nat} (e : ps.length = n) : FnOk P w K mg base CX0 0 f fd ps (SpD K n fun _ _ _ => False) :=
  ⟨fun vs H Q E h => h.1.trans e.symm, fun A outer s H args us vs Q E _ _ _ _ h => by
    obtain ⟨_, _, _, _, _, _, _, z, _⟩ := h
    exact z.elim⟩
theorem ok__law_same {fd : FuncData} (F : Fun K "_law_same" "_law_same" s__law_same a__law_same fd) (T : Txt K mg a_is_name a_is_number a__law_box a__law_pull a__law_of a__law_same t_LETTERS t_LONGEST_NAME) (b__law_same : Binds K fd ["_law_found", "_law_due"] []) :
    ∀ n : Nat, FnOk P w K mg base CX0 n a__law_same fd ["_law_found", "_law_due"] (SpD K 2 (fSame n))
  | 0 => none_sp rfl
  | n + 1 => by
    have G__law_same := ok__law_same F T b__law_same n
    have F__law_same := F
    refine F.ok sc__law_same (fun vs H Q E h => h.1) (fun cdv A outer s H vs Q E hr h => ?_)
    obtain ⟨hl, B, M, ds, Pd, g, hd, ⟨d, rfl, hp, p⟩, q⟩ := h
    refine ⟨_, (pss_cons (ps_if (PW.pt (pw_or (pt_cmpR op_isN (pv 1) pe_non (nomark _)) (pw_or1 (pt_cmpR op_isN (pv 0) pe_non (nomark _)))))
 (pss_one (ps_ret (pe_and (pe_cmpR op_isN (pv 1) pe_non (nomark _)) (pe_one (pe_cmpR op_isN (pv 0) pe_non (nomark _))))))
 pss_nil)
 (pss_cons (ps_if (pt_val (pe_callB call_isiT (by rfl) T.n_isinstance (by decide +kernel) (pa_cons (pv 1) (pa_cons (pe_tup (pa_cons (pe_bltn (v := .ty "list") (u := .type "list") (by rfl) T.n_list (by decide +kernel) rfl) (pa_cons (pe_bltn (v := .ty "tuple") (u := .type "tuple") (by rfl) T.n_tuple (by decide +kernel) rfl) pa_nil))) pa_nil))))
 (pss_cons (ps_if (PW.pt (pw_or (pt_cmpR op_ne (pe_callB call_isi (by rfl) T.n_isinstance (by decide +kernel) (pa_cons (pv 0) (pa_cons (pe_bltn (v := .ty "list") (u := .type "list") (by rfl) T.n_list (by decide +kernel) rfl) pa_nil))) (pe_callB call_isi (by rfl) T.n_isinstance (by decide +kernel) (pa_cons (pv 1) (pa_cons (pe_bltn (v := .ty "list") (u := .type "list") (by rfl) T.n_list (by decide +kernel) rfl) pa_nil))) (nomark _)) (pw_or1 (pt_cmpR op_ne (pe_callB call_isi (by rfl) T.n_isinstance (by decide +kernel) (pa_cons (pv 0) (pa_cons (pe_bltn (v := .ty "tuple") (u := .type "tuple") (by rfl) T.n_tuple (by decide +kernel) rfl) pa_nil))) (pe_callB call_isi (by rfl) T.n_isinstance (by decide +kernel) (pa_cons (pv 1) (pa_cons (pe_bltn (v := .ty "tuple") (u := .type "tuple") (by rfl) T.n_tuple (by decide +kernel) rfl) pa_nil))) (nomark _)))))
 (pss_one (ps_ret pe_bl))
 pss_nil)
 (pss_one (ps_ret (pe_and (pe_cmpR op_eq (pe_callB call_len (by rfl) T.n_len PySem.boot_len (pa_cons (pv 0) pa_nil)) (pe_callB call_len (by rfl) T.n_len PySem.boot_len (pa_cons (pv 1) pa_nil)) (nomark _)) (pe_one (pe_callB (cr_all rfl) (by rfl) T.n_all (by decide +kernel) (pa_cons (pe_lc (own := [("_law_a", 2), ("_law_b", 3)]) (g := (gTup K 2 (gCons (gName 2) (gCons (gName 3) gNil)))) (tt := tYes) (by rfl) sc__law_same.nd (pi_zipA (by rfl) T.n_zip (pa_cons (pv 0) (pa_cons (pv 1) pa_nil))) (blkOk_by (own := [("_law_a", 2), ("_law_b", 3)]) (N := N__law_same) (sc := defScope s__law_same) (by decide +kernel)) (fun _ _ _ _ _ => (pg_tup rfl (pgs_cons (pg_name (i := 2) sc__law_same.nd rfl (Or.inl rfl)) (pgs_cons (pg_name (i := 3) sc__law_same.nd rfl (Or.inl rfl)) pgs_nil)))) (fun _ _ _ _ _ => pts_nil) (fun _ _ _ _ _ => (pe_call G__law_same (hr.mono (by omega)) (by rfl) T.m__law_same F__law_same.kp b__law_same .nil pass0 (pa_cons (pv 2) (pa_cons (pv 3) pa_nil))))) pa_nil)))))))
 pss_nil)
 (pss_cons (ps_if (PW.pt (pw_or (pt_val (pe_callB call_isi (by rfl) T.n_isinstance (by decide +kernel) (pa_cons (pv 1) (pa_cons (pe_bltn (v := .ty "bool") (u := .type "bool") (by rfl) T.n_bool (by decide +kernel) rfl) pa_nil)))) (pw_or1 (pt_val (pe_callB call_isi (by rfl) T.n_isinstance (by decide +kernel) (pa_cons (pv 0) (pa_cons (pe_bltn (v := .ty "bool") (u := .type "bool") (by rfl) T.n_bool (by decide +kernel) rfl) pa_nil)))))))
 (pss_one (ps_ret (pe_and (pe_callB call_isi (by rfl) T.n_isinstance (by decide +kernel) (pa_cons (pv 1) (pa_cons (pe_bltn (v := .ty "bool") (u := .type "bool") (by rfl) T.n_bool (by decide +kernel) rfl) pa_nil))) (pe_and (pe_callB call_isi (by rfl) T.n_isinstance (by decide +kernel) (pa_cons (pv 0) (pa_cons (pe_bltn (v := .ty "bool") (u := .type "bool") (by rfl) T.n_bool (by decide +kernel) rfl) pa_nil))) (pe_one (pe_cmpR op_eq (pv 0) (pv 1) (nomark _)))))))
 pss_nil)
 (pss_cons (ps_if (pt_val (pe_callB call_isi (by rfl) T.n_isinstance (by decide +kernel) (pa_cons (pv 1) (pa_cons (pe_bltn (v := .ty "int") (u := .type "int") (by rfl) T.n_int (by decide +kernel) rfl) pa_nil))))
 (pss_one (ps_ret (pe_and (pe_callB call_isi (by rfl) T.n_isinstance (by decide +kernel) (pa_cons (pv 0) (pa_cons (pe_bltn (v := .ty "int") (u := .type "int") (by rfl) T.n_int (by decide +kernel) rfl) pa_nil))) (pe_one (pe_cmpR op_eq (pv 0) (pv 1) (nomark _))))))
 pss_nil)
 (pss_one (ps_ret (pe_and (pe_callB call_isi (by rfl) T.n_isinstance (by decide +kernel) (pa_cons (pv 0) (pa_cons (pe_bltn (v := .ty "str") (u := .type "str") (by rfl) T.n_str (by decide +kernel) rfl) pa_nil))) (pe_and (pe_callB call_isi (by rfl) T.n_isinstance (by decide +kernel) (pa_cons (pv 1) (pa_cons (pe_bltn (v := .ty "str") (u := .type "str") (by rfl) T.n_str (by decide +kernel) rfl) pa_nil))) (pe_one (pe_cmpR op_eq (pv 0) (pv 1) (nomark _))))))))))), ?_⟩
    refine run_body g hd q ?_
    dsimp only [cxOf]
    cases hp with
    | non =>
      repeat first | walk_at "dl1" | walk_at "dl2"
      exact p
    | bl x =>
      repeat first | walk_at "dl1" | walk_at "dl2"
      show Pd (D.bl (decide (x = x)))
      rw [decide_eq_true rfl]
      exact p
    | int x =>
      repeat first | walk_at "dl1" | walk_at "dl2"
      show Pd (D.bl (decide (x = x)))
      rw [decide_eq_true rfl]
      exact p
    | str x =>
      repeat first | walk_at "dl1" | walk_at "dl2"
      show Pd (D.bl (decide (x = x)))
      rw [decide_eq_true rfl]
      exact p
    | @lst _ es hx hln =>
      repeat first | walk_at "dl1" | walk_at "dl2"
      refine iT (decide_eq_true rfl) ?_
      repeat first | walk_at "dl1" | walk_at "dl2"
      refine ev_lc_map (ei_zip (ea_cons (ev_var rfl (ea_cons (ev_var rfl (ea_nil ⟨es, es, .inl rfl, ?_, fun _ => .bl true, fun d hd' => ?_, ?_⟩))))))
      · exact Nat.lt_of_le_of_lt (Nat.le_trans zipD_le hln) (by rw [sizeLine_eq]; decide)
      · obtain ⟨x, hx', rfl⟩ := zip_self hd'
        refine eg_pair (by decide) (by decide) ?_
        repeat first | walk_at "dl1" | walk_at "dl2"
        exact ⟨hx x hx', rfl⟩
      · repeat first | walk_at "dl1" | walk_at "dl2"
        refine ⟨(zipD es es).map fun _ => true, ?_, ?_⟩
        · rw [List.map_map]; rfl
        · rw [all_true]; exact p
    | @tup _ es hx hln =>
      repeat first | walk_at "dl1" | walk_at "dl2"
      refine iT (decide_eq_true rfl) ?_
      repeat first | walk_at "dl1" | walk_at "dl2"
      refine ev_lc_map (ei_zip (ea_cons (ev_var rfl (ea_cons (ev_var rfl (ea_nil ⟨es, es, .inr rfl, ?_, fun _ => .bl true, fun d hd' => ?_, ?_⟩))))))
      · exact Nat.lt_of_le_of_lt (Nat.le_trans zipD_le hln) (by rw [sizeLine_eq]; decide)
      · obtain ⟨x, hx', rfl⟩ := zip_self hd'
        refine eg_pair (by decide) (by decide) ?_
        repeat first | walk_at "dl1" | walk_at "dl2"
        exact ⟨hx x hx', rfl⟩
      · repeat first | walk_at "dl1" | walk_at "dl2"
        refine ⟨(zipD es es).map fun _ => true, ?_, ?_⟩
        · rw [List.map_map]; rfl
        · rw [all_true]; exact p
/-- the box is made -/
def spBox (K : PySem.W.Frag) : Sp := fun vs H Q _ => ∃ (a : Addr) (ns : List Int), vs = [.ref a] ∧ SqL K H a (ns.map V.int) ∧ ns.length ≤ 63 ∧ ∀ (B : Bx) (H' : Hp), Same H H' → H B.b = none → H B.l = none → BoxOk K B H' → Q (.ref B.b) H'
theorem ok__law_box {fd : FuncData} (F : Fun K "_law_box" "_law_box" s__law_box a__law_box fd) (T : Txt K mg a_is_name a_is_number a__law_box a__law_pull a__law_of a__law_same t_LETTERS t_LONGEST_NAME) : FnOk P w K mg base CX0 1 a__law_box fd ["_law_script"] (spBox K) := by
  refine F.ok sc__law_box (fun vs H Q E h => ?_) (fun cdv A outer s H vs Q E hr h => ?_)
  · obtain ⟨a, ns, rfl, _⟩ := h
    rfl
  obtain ⟨a, ns, rfl, hs, hn, q⟩ := h
  refine ⟨_, (pss_cons (ps_set (i := 1) sc__law_box.nd rfl (Or.inl rfl) pe_int)
 (pss_cons (ps_for PassesOwn.never rfl (pi_list (pe_slice sl_list (pv 0) po_none (po_some pe_int))) (pg_name (i := 2) sc__law_box.nd rfl (Or.inl rfl))
 (pss_one (ps_set (i := 1) sc__law_box.nd rfl (Or.inl rfl) (pe_op op_mod (pe_callTy call_int1 (by rfl) T.n_int (by decide +kernel) (pa_cons (pe_op op_add (pe_op op_add (pe_op op_mul (pv 1) pe_int) (pe_op op_mul (pe_op op_mod (pe_callTy call_int1 (by rfl) T.n_int (by decide +kernel) (pa_cons (pv 2) pa_nil)) pe_int) pe_int)) pe_int) pa_nil)) pe_int))))
 (pss_one (ps_ret (pe_lst (pa_cons (pe_callTy call_list_of (by rfl) T.n_list (by decide +kernel) (pa_cons (pe_slice sl_list (pv 0) po_none (po_some pe_int)) pa_nil)) (pa_cons pe_int (pa_cons pe_int (pa_cons (pv 1) (pa_cons pe_int pa_nil)))))))))), ?_⟩
  dsimp only [cxOf]
  have cut : cutV (ns.map V.int) none (some 63) = ns.map V.int := by
    unfold cutV
    rw [HT.sIx_none, show HT.sIx (ns.map V.int).length (ns.map V.int).length (some 63) = min 63 (ns.map V.int).length from HT.sIx_nat _ _ 63, List.length_map, List.drop_zero]
    exact List.take_of_length_le (by rw [List.length_map]; omega)
  refine ⟨_, rfl, 63, rfl, a, _, rfl, hs, fun p hp => ?_⟩
  rw [cut]
  have s1 : Same H (upd H p (.lst (ns.map V.int))) := fun c o e => by rw [upd_ne (ne_of_none e hp)]; exact e
  have hp1 : (upd H p (.lst (ns.map V.int))) p = some (.lst (ns.map V.int)) := upd_same
  generalize upd H p (.lst (ns.map V.int)) = H1 at s1 hp1
  refine ⟨p, rfl, ⟨_, SqL.of hp1⟩, ?_⟩
  refine for_list (xs := ns.map V.int) (fun i σ H' => ∃ (m : Int) (v2 : Option V), σ = [some (.ref a), some (.int m), v2] ∧ 0 ≤ m ∧ m < 2147483579 ∧ H' = H1) ⟨12022, none, rfl, by decide, by decide, rfl⟩ (fun i σ H' _ hP => ?_) (fun i x σ H' hx hP => ?_) (fun σ H' hP => ?_)
  · obtain ⟨_, _, _, _, _, rfl⟩ := hP
    exact SqL.of hp1
  · obtain ⟨m, v2, rfl, m0, m1, rfl⟩ := hP
    rw [List.getElem?_map] at hx
    obtain ⟨z, hz, rfl⟩ := Option.map_eq_some_iff.mp hx
    refine ⟨_, rfl, _, _, rfl, rfl, .inl ⟨by omega, by omega⟩, ?_⟩
    refine ⟨_, rfl, .inl ⟨_, rfl, ?_⟩⟩
    refine ⟨_, _, rfl, rfl, (by show (0 : Int) < _; decide), ?_⟩
    refine ⟨_, _, rfl, rfl, .inr ⟨by omega, by omega⟩, ?_⟩
    refine ⟨_, _, rfl, rfl, _, _, rfl, rfl, .inl ⟨_, rfl, ?_⟩⟩
    refine ⟨_, _, rfl, rfl, (by show (0 : Int) < _; decide), ?_⟩
    exact ⟨_, _, rfl, Int.emod_nonneg _ (by omega), Int.emod_lt_of_pos _ (by omega), rfl⟩
  · obtain ⟨m, v2, rfl, m0, m1, rfl⟩ := hP
    have hs1 : SqL K H' a (ns.map V.int) := s1.seq hs
    refine ⟨_, rfl, 63, rfl, a, _, rfl, hs1, fun p2 hp2 => ?_⟩
    rw [cut]
    have s2 : Same H' (upd H' p2 (.lst (ns.map V.int))) := fun c o e => by rw [upd_ne (ne_of_none e hp2)]; exact e
    have hq2 : (upd H' p2 (.lst (ns.map V.int))) p2 = some (.lst (ns.map V.int)) := upd_same
    generalize upd H' p2 (.lst (ns.map V.int)) = H2 at s2 hq2
    refine ⟨p2, _, rfl, .inl (SqL.of hq2), fun l hl => ?_⟩
    have s3 : Same H2 (upd H2 l (.lst (ns.map V.int))) := fun c o e => by rw [upd_ne (ne_of_none e hl)]; exact e
    have hq3 : (upd H2 l (.lst (ns.map V.int))) l = some (.lst (ns.map V.int)) := upd_same
    generalize upd H2 l (.lst (ns.map V.int)) = H3 at s3 hq3
    refine ⟨_, rfl, (by show 5 ≤ sizeLine; rw [sizeLine_eq]; decide), fun b hb => ?_⟩
    have s4 : Same H3 (upd H3 b (.lst [.ref l, .int 0, .int 0, .int m, .int 0])) := fun c o e => by rw [upd_ne (ne_of_none e hb)]; exact e
    have sa : Same H H2 := s1.trans s2
    refine q ⟨b, l⟩ _ ((sa.trans s3).trans s4) ((sa.trans s3).free hb) (sa.free hl) ⟨ns, 0, 0, m, 0, upd_same, ne_of_none hq3 hb, s4 _ _ hq3, hn, by decide, m0, by omega⟩
end
end K01

set_option maxHeartbeats 4000000
namespace K01
open PySem PySem.Spec PyProof.Rows L2 RZ TL DL
local macro_rules | `(tactic| walk_at "dl1") => `(tactic| first
  | with_reducible refine rn_seq ?_
  | with_reducible refine rn_if ?_
  | with_reducible refine rn_ret ?_
  | with_reducible refine rn_set ?_
  | with_reducible refine rn_drop ?_
  | with_reducible refine rn_next ?_
  | with_reducible refine et_test ?_
  | with_reducible refine et_B ?_
  | with_reducible refine et_not ?_
  | with_reducible refine et_and ?_
  | with_reducible refine et_or ?_
  | ((with_reducible refine' ev_var ?k1 ?_); (case k1 => exact rfl))
  | with_reducible refine ev_int ?_
  | with_reducible refine ev_str ?_
  | with_reducible refine ev_bl ?_
  | with_reducible refine ev_non ?_
  | with_reducible refine ev_ty ?_
  | with_reducible refine ea_nil ?_
  | with_reducible refine ea_cons ?_
  | with_reducible refine ev_andV ?_
  | with_reducible refine ev_orV ?_
  | with_reducible refine ev_notV ?_
  | with_reducible refine ev_chain ?_
  | with_reducible refine ev_len ?_
  | with_reducible refine ev_all ?_
  | with_reducible refine ev_join ?_
  | with_reducible refine ev_I0 ?_
  | with_reducible refine ev_B0 ?_
  | with_reducible refine ev_I ?_
  | with_reducible refine ev_eq ?_
  | with_reducible refine ev_ne ?_
  | with_reducible refine ev_isN ?_
  | with_reducible refine ev_notN ?_
  | with_reducible refine ev_tup ?_
  | with_reducible refine ev_lst ?_
  | with_reducible refine ev_ix ?_
  | with_reducible refine ev_cat ?_
  | with_reducible refine ev_rep ?_
  | with_reducible refine ev_mulS ?_
  | with_reducible refine ev_add_str ?_
  | with_reducible refine ev_slS ?_
  | with_reducible refine ev_slL ?_
  | with_reducible refine eo_none ?_
  | with_reducible refine eo_some ?_
  | with_reducible refine ev_in_sign ?_
  | with_reducible refine ev_is ?_
  | refine ev_is2 (m := .list) (m' := .tuple) ?_
  | with_reducible refine ev_call ?_)
local macro_rules | `(tactic| walk_at "dl2") => `(tactic| first
  | (refine ⟨_, rfl, ?_⟩; done)
  | (with_reducible refine ⟨_, rfl, ?_⟩)
  | (with_reducible refine ⟨_, _, rfl, rfl, ?_⟩)
  | (refine ⟨_, .str, rfl, rfl, ?_⟩)
  | (refine ⟨_, .int, rfl, rfl, ?_⟩)
  | (refine ⟨_, .bool, rfl, rfl, ?_⟩)
  | (refine ⟨_, .list, rfl, rfl, ?_⟩)
  | (refine ⟨_, .tuple, rfl, rfl, ?_⟩)
  | (refine ⟨rfl, _, rfl, ?_⟩)
  | (refine iT rfl ?_)
  | (refine iF rfl ?_))

theorem small_n' {n : Nat} (h : n ≤ 1000) : n < sizeLine := small1000 h
theorem small_n {n : Nat} (h : n ≤ 1000) : n ≤ sizeLine := Nat.le_of_lt (small1000 h)
inductive PlL (k : Nat) : List D → Prop
  | nil : PlL k []
  | cons {d : D} {ds : List D} (h : Pl k d) (t : PlL k ds) : PlL k (d :: ds)
theorem PlL.all {k : Nat} {ds : List D} (h : PlL k ds) : ∀ d, d ∈ ds → Pl k d := by
  induction h with
  | nil => exact fun d hd => (by cases hd)
  | cons h t ih => exact fun d hd => (List.mem_cons.mp hd).elim (fun e => e ▸ h) (ih d)
theorem Pl.ofL {k : Nat} {ds : List D} (h : PlL k ds) (hl : ds.length ≤ 100000) : Pl (k + 1) (.lst ds) := .lst h.all hl
theorem Pl.ofT {k : Nat} {ds : List D} (h : PlL k ds) (hl : ds.length ≤ 100000) : Pl (k + 1) (.tup ds) := .tup h.all hl
local macro_rules | `(tactic| walk_at "dl3") => `(tactic| first
  | (refine ⟨rfl, fun _ e => (by cases e <;> first | omega | decide), ?_⟩)
  | (refine ⟨small_n (Nat.le_of_ble_eq_true rfl), ?_⟩)
  | (refine ⟨_, _, _, rfl, rfl, ?_⟩)
  | (refine ⟨rfl, _, _, _, rfl, rfl, ?_⟩)
  | (refine ⟨rfl, _, _, rfl, rfl, (by decide), (by decide), ?_⟩)
  | (refine ⟨(show CPow _ _ from ⟨by decide, by decide, by decide⟩), ?_⟩)
  | (refine ⟨(show CMul _ _ from .inl ⟨by decide, by decide⟩), ?_⟩)
  | with_reducible refine et_yes ?_)
local macro_rules | `(tactic| walk_at "dl") => `(tactic| repeat first | walk_at "dl1" | walk_at "dl2" | walk_at "dl3")
local macro_rules | `(tactic| walk_at "pl") => `(tactic| first
  | exact Pl.bl _ | exact Pl.int _ | exact Pl.str _ | exact Pl.non
  | refine Pl.ofL ?_ (Nat.le_of_ble_eq_true rfl) | refine Pl.ofT ?_ (Nat.le_of_ble_eq_true rfl)
  | exact PlL.nil | refine PlL.cons ?_ ?_)
abbrev s_law : Stmt := topS 10
abbrev N_law : List Str := ["_law_script", "_law_box_here", "_law_letters", "_law_turn", "_law_name", "_law_spot", "_law_bent", "_law_least", "_law_most", "_law_asks", "_law_odd", "_law_value", "_law_k"]
theorem sc_law : FnScope N_law ["_law_script"] (defScope s_law) := ⟨rfl, rfl, rfl, by decide +kernel, rfl, by decide +kernel, by decide +kernel⟩
section
variable {P : Program} {w : World} {K : PySem.W.Frag} {mg : Str → Option Value} {base : Heap} {a_is_name a_is_number a__law_box a__law_pull a__law_of a__law_same a_law : Addr} {t_LETTERS t_LONGEST_NAME : Tok}
/-- from the heap to data: the box stands, the law's one wish is True -/
theorem to_data {B : Bx} {H : Hp} {σ : L2.St} {Γ : Gam} {t : TS} {Q : VK} (hb : BoxOk K B H) (x : EnvOk K [B.b, B.l] H σ Γ) (h : Rn K B t Γ { nx := fun _ => False, rt := fun d => d = .bl true }) (q : ∀ H', Q (.bl true) H') :
    t { nx := fun _ H' => Q .non H', rt := Q } σ H := by
  obtain ⟨ns, i, r, m, c, h1, n1, h2, _⟩ := id hb
  refine h [B.b, B.l] σ H _ ⟨by simp, by simp, hb, fun a ha => ?_⟩ x (fun _ _ _ _ p _ => False.elim p) (fun v H' d _ e dn => ?_) (fun _ _ _ _ p => False.elim p) fun _ _ _ _ p => False.elim p
  · rcases List.mem_cons.mp ha with e | ha
    · rw [e, h1]; exact fun z => by cases z
    · have e : a = B.l := by simpa using ha
      rw [e, h2]; exact fun z => by cases z
  · subst e
    cases dn
    exact q H'
theorem env2 {B : Bx} {H : Hp} {M : List Addr} {a : Addr} {n : Nat} : EnvOk K M H (some (V.ref a) :: some (V.ref B.b) :: List.replicate n none) (some (D.obj a) :: some (D.obj B.b) :: List.replicate n none) :=
  ⟨by simp, fun i d e => by
    match i, e with
    | 0, e =>
      have e' := Option.some.inj (Option.some.inj e)
      subst e'
      exact ⟨_, rfl, .obj a⟩
    | 1, e =>
      have e' := Option.some.inj (Option.some.inj e)
      subst e'
      exact ⟨_, rfl, .obj _⟩
    | j + 2, e =>
      have e : (List.replicate n (none : Option D))[j]? = some (some d) := e
      rw [List.getElem?_replicate] at e
      split at e <;> cases e⟩
theorem item_str {z : Str} {k : Nat} (hz : z.length ≤ 1000) (hk : k < z.length) : ∃ c, c ∈ z.cps.toList ∧ itemD (.str z) (.int (k : Int)) = some (.str ⟨#[c]⟩) := by
  have hk' : k < z.cps.toList.length := by rw [Array.length_toList]; exact hk
  refine ⟨z.cps.toList[k], List.getElem_mem _, ?_⟩
  show (if z.length ≤ sizeLine then (atI z.cps.toList (k : Int)).map fun c => D.str ⟨#[c]⟩ else none) = _
  rw [if_pos (by rw [sizeLine_eq]; omega), atI_nat (List.getElem?_eq_getElem hk')]
  rfl
theorem tl_str (cs : List Nat) : tl (⟨cs.toArray⟩ : Str) = cs := rfl
theorem joinL_nil : ∀ ps : List (List Nat), joinL [] ps = ps.flatten
  | [] => rfl
  | [p] => by simp [joinL]
  | p :: q :: r => by
    show p ++ ([] ++ joinL [] (q :: r)) = _
    rw [joinL_nil (q :: r)]
    simp
theorem join0 (ys : List Str) : tl (Txt.join "" ys) = (ys.map tl).flatten := by
  rw [join_eq, tl_join]
  exact joinL_nil _
theorem len_tl (z : Str) : z.length = (tl z).length := by rw [Array.length_toList]; rfl
theorem sum_one : ∀ cs : List Nat, ((cs.map fun c => (⟨#[c]⟩ : Str)).map (·.length)).sum = cs.length
  | [] => rfl
  | c :: cs => by
    rw [List.map_cons, List.map_cons, List.sum_cons, sum_one cs, List.length_cons]
    show 1 + cs.length = _
    omega
theorem flat_one : ∀ cs : List Nat, ((cs.map fun c => (⟨#[c]⟩ : Str)).map tl).flatten = cs
  | [] => rfl
  | c :: cs => by
    rw [List.map_cons, List.map_cons, List.flatten_cons, flat_one cs]
    rfl
def goodN (z : Str) : Prop := 1 ≤ z.length ∧ z.length ≤ 6 ∧ ∀ c, c ∈ tl z → c ∈ lettersL
theorem goodN_name {z : Str} (h : goodN z) : isNameS z = true := by
  obtain ⟨h1, h2, h3⟩ := h
  unfold isNameS
  rw [decide_eq_true h1, decide_eq_true h2]
  exact List.all_eq_true.mpr fun c hc => decide_eq_true (h3 c hc)
theorem badN {z : Str} {c : Nat} (h : c ∈ tl z) (n : c ∉ lettersL) : isNameS z = false := by
  unfold isNameS
  have e : (z.cps.toList.all fun c => decide (c ∈ lettersL)) = false := by
    rw [List.all_eq_false]
    exact ⟨c, h, by simpa using n⟩
  rw [e, Bool.and_false]
theorem longN {z : Str} (h : 6 < z.length) : isNameS z = false := by
  unfold isNameS
  rw [decide_eq_false (show ¬ z.length ≤ 6 by omega), Bool.and_false, Bool.false_and]
theorem tl_one (c : Nat) : tl (⟨#[c]⟩ : Str) = [c] := rfl
theorem bad_sign : ∀ c, c ∈ (("AZ09_- .{" : Str).cps.toList) → c ∉ lettersL := by decide
def spLaw (K : PySem.W.Frag) : Sp := fun vs H Q _ => ∃ (a : Addr) (ns : List Int), vs = [.ref a] ∧ SqL K H a (ns.map V.int) ∧ ns.length ≤ 63 ∧ ∀ H', Q (.bl true) H'
theorem ok_law {fd f1 f2 f3 f4 f5 f6 : FuncData} (F : Fun K "law" "law" s_law a_law fd) (T : Txt K mg a_is_name a_is_number a__law_box a__law_pull a__law_of a__law_same t_LETTERS t_LONGEST_NAME)
    (F_is_name : Fun K "is_name" "is_name" s_is_name a_is_name f1) (b_is_name : Binds K f1 ["value"] []) (F_is_number : Fun K "is_number" "is_number" s_is_number a_is_number f2) (b_is_number : Binds K f2 ["value", "least", "most"] [])
    (F__law_box : Fun K "_law_box" "_law_box" s__law_box a__law_box f3) (b__law_box : Binds K f3 ["_law_script"] []) (F__law_pull : Fun K "_law_pull" "_law_pull" s__law_pull a__law_pull f4) (b__law_pull : Binds K f4 ["_law_box_here", "_law_many"] [])
    (F__law_of : Fun K "_law_of" "_law_of" s__law_of a__law_of f5) (b__law_of : Binds K f5 ["_law_box_here", "_law_some"] []) (F__law_same : Fun K "_law_same" "_law_same" s__law_same a__law_same f6) (b__law_same : Binds K f6 ["_law_found", "_law_due"] []) :
    FnOk P w K mg base CX0 5 a_law fd ["_law_script"] (spLaw K) := by
  have G_is_name := ok_is_name (P := P) (w := w) (base := base) F_is_name T
  have G_is_number := ok_is_number (P := P) (w := w) (base := base) F_is_number T
  have G__law_box := ok__law_box (P := P) (w := w) (base := base) F__law_box T
  have G__law_pull := ok__law_pull (P := P) (w := w) (base := base) F__law_pull T
  have G__law_of := ok__law_of (P := P) (w := w) (base := base) F__law_of T F__law_pull b__law_pull
  have G__law_same := ok__law_same (P := P) (w := w) (base := base) F__law_same T b__law_same 4
  refine F.ok sc_law (fun vs H Q E h => ?_) (fun cdv A outer s H vs Q E hr h => ?_)
  · obtain ⟨a, ns, rfl, _⟩ := h
    rfl
  obtain ⟨a, ns, rfl, hs, hn, q⟩ := h
  refine ⟨_, (pss_cons (ps_set (i := 1) sc_law.nd rfl (Or.inr rfl) (pe_call G__law_box (hr.mono (by omega)) (by rfl) T.m__law_box F__law_box.kp b__law_box .nil pass0 (pa_cons (pv 0) pa_nil)))
 (pss_cons (ps_set (i := 2) sc_law.nd rfl (Or.inr rfl) pe_str)
 (pss_cons (ps_for PassesOwn.never rfl (pi_range1 (by rfl) T.n_range (pa_cons pe_int pa_nil)) (pg_name (i := 3) sc_law.nd rfl (Or.inl rfl))
 (pss_cons (ps_set (i := 4) sc_law.nd rfl (Or.inl rfl) (pe_join pe_str (pe_lc (own := [("_law_k", 12)]) (g := (gName 12)) (tt := tYes) (by rfl) sc_law.nd (pi_range1 (by rfl) T.n_range (pa_cons (pe_op op_add pe_int (pe_call G__law_pull (hr.mono (by omega)) (by rfl) T.m__law_pull F__law_pull.kp b__law_pull .nil pass0 (pa_cons (pv 1) (pa_cons pe_int pa_nil)))) pa_nil)) (blkOk_by (own := [("_law_k", 12)]) (N := N_law) (sc := defScope s_law) (by decide +kernel)) (fun _ _ _ _ _ => (pg_name (i := 12) sc_law.nd rfl (Or.inl rfl))) (fun _ _ _ _ _ => pts_nil) (fun _ _ _ _ _ => (pe_call G__law_of (hr.mono (by omega)) (by rfl) T.m__law_of F__law_of.kp b__law_of .nil pass0 (pa_cons (pv 1) (pa_cons (pv 2) pa_nil)))))))
 (pss_cons (ps_set (i := 5) sc_law.nd rfl (Or.inl rfl) (pe_call G__law_pull (hr.mono (by omega)) (by rfl) T.m__law_pull F__law_pull.kp b__law_pull .nil pass0 (pa_cons (pv 1) (pa_cons (pe_callB call_len (by rfl) T.n_len PySem.boot_len (pa_cons (pv 4) pa_nil)) pa_nil))))
 (pss_cons (ps_set (i := 6) sc_law.nd rfl (Or.inl rfl) (pe_op op_add_str (pe_op op_add_str (pe_slice sl_str (pv 4) po_none (po_some (pv 5))) (pe_call G__law_of (hr.mono (by omega)) (by rfl) T.m__law_of F__law_of.kp b__law_of .nil pass0 (pa_cons (pv 1) (pa_cons pe_str pa_nil)))) (pe_slice sl_str (pv 4) (po_some (pe_op op_add (pv 5) pe_int)) po_none)))
 (pss_cons (ps_if (pt_not (pt_val (pe_call G__law_same (hr.mono (by omega)) (by rfl) T.m__law_same F__law_same.kp b__law_same .nil pass0 (pa_cons (pe_lst (pa_cons (pe_call G_is_name (hr.mono (by omega)) (by rfl) T.m_is_name F_is_name.kp b_is_name .nil pass0 (pa_cons (pv 4) pa_nil)) (pa_cons (pe_call G_is_name (hr.mono (by omega)) (by rfl) T.m_is_name F_is_name.kp b_is_name .nil pass0 (pa_cons (pv 6) pa_nil)) (pa_cons (pe_call G_is_name (hr.mono (by omega)) (by rfl) T.m_is_name F_is_name.kp b_is_name .nil pass0 (pa_cons (pe_op op_add_str (pv 4) (pe_op op_mulS pe_str pe_int)) pa_nil)) pa_nil)))) (pa_cons (pe_lst (pa_cons pe_bl (pa_cons pe_bl (pa_cons pe_bl pa_nil)))) pa_nil)))))
 (pss_one (ps_ret pe_bl))
 pss_nil)
 (pss_cons (ps_set (i := 7) sc_law.nd rfl (Or.inr rfl) (pe_op op_sub (pe_call G__law_pull (hr.mono (by omega)) (by rfl) T.m__law_pull F__law_pull.kp b__law_pull .nil pass0 (pa_cons (pv 1) (pa_cons (pe_op op_pow pe_int pe_int) pa_nil))) (pe_op op_mul pe_int (pe_op op_pow pe_int pe_int))))
 (pss_cons (ps_set (i := 8) sc_law.nd rfl (Or.inr rfl) (pe_op op_add (pv 7) (pe_call G__law_of (hr.mono (by omega)) (by rfl) T.m__law_of F__law_of.kp b__law_of .nil pass0 (pa_cons (pv 1) (pa_cons (pe_lst (pa_cons pe_int (pa_cons pe_int (pa_cons pe_int (pa_cons pe_int pa_nil))))) pa_nil)))))
 (pss_cons (ps_setLc (i := 9) (own := [("_law_value", 11)]) (g := (gName 11)) (tt := tYes) (by rfl) sc_law.nd rfl rfl (sw_true rfl rfl rfl (by decide +kernel)) (pi_list (pe_lst (pa_cons (pe_op op_sub (pv 7) pe_int) (pa_cons (pv 7) (pa_cons (pv 8) (pa_cons (pe_op op_add (pv 8) pe_int) pa_nil)))))) (blkOk_by (own := [("_law_value", 11)]) (N := N_law) (sc := defScope s_law) (by decide +kernel)) (fun _ _ _ _ _ => (pg_name (i := 11) sc_law.nd rfl (Or.inl rfl))) (fun _ _ _ _ _ => pts_nil) (fun _ _ _ _ _ => (pe_call G_is_number (hr.mono (by omega)) (by rfl) T.m_is_number F_is_number.kp b_is_number .nil pass0 (pa_cons (pv 11) (pa_cons (pv 7) (pa_cons (pv 8) pa_nil))))))
 (pss_cons (ps_if (pt_not (pt_val (pe_call G__law_same (hr.mono (by omega)) (by rfl) T.m__law_same F__law_same.kp b__law_same .nil pass0 (pa_cons (pv 9) (pa_cons (pe_lst (pa_cons pe_bl (pa_cons pe_bl (pa_cons pe_bl (pa_cons pe_bl pa_nil))))) pa_nil)))))
 (pss_one (ps_ret pe_bl))
 pss_nil)
 (pss_cons (ps_set (i := 10) sc_law.nd rfl (Or.inl rfl) (pe_call G__law_of (hr.mono (by omega)) (by rfl) T.m__law_of F__law_of.kp b__law_of .nil pass0 (pa_cons (pv 1) (pa_cons (pe_lst (pa_cons pe_non (pa_cons pe_bl (pa_cons pe_bl (pa_cons pe_str (pa_cons pe_str (pa_cons (pe_tup (pa_cons pe_int pa_nil)) (pa_cons (pe_lst (pa_cons pe_int pa_nil)) (pa_cons (pe_tup pa_nil) pa_nil))))))))) pa_nil))))
 (pss_one (ps_if (pt_not (pt_val (pe_call G__law_same (hr.mono (by omega)) (by rfl) T.m__law_same F__law_same.kp b__law_same .nil pass0 (pa_cons (pe_lst (pa_cons (pe_call G_is_name (hr.mono (by omega)) (by rfl) T.m_is_name F_is_name.kp b_is_name .nil pass0 (pa_cons (pv 10) pa_nil)) (pa_cons (pe_call G_is_number (hr.mono (by omega)) (by rfl) T.m_is_number F_is_number.kp b_is_number .nil pass0 (pa_cons (pv 10) (pa_cons pe_int (pa_cons pe_int pa_nil)))) pa_nil))) (pa_cons (pe_lst (pa_cons pe_bl (pa_cons pe_bl pa_nil))) pa_nil)))))
 (pss_one (ps_ret pe_bl))
 pss_nil))))))))))))
 (pss_one (ps_ret (pe_call G__law_same (hr.mono (by omega)) (by rfl) T.m__law_same F__law_same.kp b__law_same .nil pass0 (pa_cons (pe_lst (pa_cons (pe_call G_is_name (hr.mono (by omega)) (by rfl) T.m_is_name F_is_name.kp b_is_name .nil pass0 (pa_cons pe_int pa_nil)) (pa_cons (pe_call G_is_name (hr.mono (by omega)) (by rfl) T.m_is_name F_is_name.kp b_is_name .nil pass0 (pa_cons (pe_tup (pa_cons pe_str pa_nil)) pa_nil)) (pa_cons (pe_call G_is_number (hr.mono (by omega)) (by rfl) T.m_is_number F_is_number.kp b_is_number .nil pass0 (pa_cons pe_str (pa_cons pe_int (pa_cons pe_int pa_nil)))) pa_nil)))) (pa_cons (pe_lst (pa_cons pe_bl (pa_cons pe_bl (pa_cons pe_bl pa_nil)))) pa_nil)))))))), ?_⟩
  dsimp only [cxOf]
  refine ⟨_, rfl, a, ns, rfl, hs, hn, fun B H1 s1 fb fl hbx => ?_⟩
  dsimp only
  refine to_data (Γ := some (D.obj a) :: some (D.obj B.b) :: List.replicate 11 none) hbx env2 ?_ q
  walk_at "dl"
  refine rn_for (ei_rng1 (ea_cons (ev_int (ea_nil ⟨12, rfl, by decide, by decide, ?_⟩))))
  refine ⟨fun _ Γ => ∃ x3 x4 x5 x6 x7 x8 x9 x10 x11 x12, Γ = [some (.obj a), some (.obj B.b), some (.str "abcdefghijklmnopqrstuvwxyz"), x3, x4, x5, x6, x7, x8, x9, x10, x11, x12], ⟨_, _, _, _, _, _, _, _, _, _, rfl⟩, fun i d Γ1 hd hΓ => ?_, fun Γ1 hΓ => ?_⟩
  · obtain ⟨x3, x4, x5, x6, x7, x8, x9, x10, x11, x12, rfl⟩ := hΓ
    refine ⟨[3], eg_name (by decide) ?_⟩
    dsimp only [List.set]
    walk_at "dl"
    -- the name
    refine ev_lc (ei_rng1 ?_)
    walk_at "dl"
    refine ⟨by decide, by decide, fun k k0 k1 => ?_⟩
    walk_at "dl"
    refine ⟨by omega, by omega, ?_, fun i acc => ∃ cs : List Nat, acc = cs.map (fun c => D.str ⟨#[c]⟩) ∧ cs.length = i ∧ ∀ c, c ∈ cs → c ∈ lettersL, ⟨[], rfl, rfl, fun _ h => by cases h⟩, fun i d2 acc hd2 hI _ => ?_, fun acc hI _ => ?_⟩
    · rw [rangeD_len, sizeLine_eq]; omega
    · obtain ⟨cs, rfl, hcl, hcs⟩ := hI
      refine eg_name (by decide) ?_
      dsimp only [List.map, wipeG, List.set]
      walk_at "dl"
      refine fun k hk => ?_
      obtain ⟨c, hc, he⟩ := item_str (z := "abcdefghijklmnopqrstuvwxyz") (k := k) (by decide) hk
      refine ⟨_, he, cs ++ [c], by rw [List.map_append]; rfl, by rw [List.length_append, hcl]; rfl, fun c' hc' => ?_⟩
      rcases List.mem_append.mp hc' with h | h
      · exact hcs c' h
      · have e : c' = c := by simpa using h
        rw [e]; exact hc
    · rw [rangeD_len] at hI
      obtain ⟨cs, rfl, hcl, hcs⟩ := hI
      refine ⟨cs.map fun c => ⟨#[c]⟩, .inl (by rw [List.map_map]; rfl), ?_, ?_⟩
      · rw [sum_one, List.length_map]
        show cs.length + cs.length * 0 ≤ 16777216
        omega
      have hz : tl (Txt.join "" (cs.map fun c => (⟨#[c]⟩ : Str))) = cs := by rw [join0, flat_one]
      have gz : goodN (Txt.join "" (cs.map fun c => (⟨#[c]⟩ : Str))) := ⟨by rw [len_tl, hz]; omega, by rw [len_tl, hz]; omega, fun c hc => hcs c (by rw [hz] at hc; exact hc)⟩
      generalize Txt.join "" (cs.map fun c => (⟨#[c]⟩ : Str)) = z at gz hz
      obtain ⟨g1, g2, g3⟩ := id gz
      dsimp only [List.set]
      walk_at "dl"
      refine ⟨_, _, rfl, lenD_str (by omega), ?_⟩
      walk_at "dl"
      refine ⟨by omega, by omega, fun sp sp0 sp1 => ?_⟩
      dsimp only [List.set]
      walk_at "dl"
      refine ⟨small_n (by omega), ?_⟩
      walk_at "dl"
      have hu := cutS_length z none (some sp)
      generalize cutS z none (some sp) = u at hu
      refine fun k3 hk3 => ?_
      obtain ⟨c, hc, he⟩ := item_str (z := "AZ09_- .{") (k := k3) (by decide) hk3
      have hcn : c ∉ lettersL := bad_sign c hc
      refine ⟨_, he, ?_⟩
      refine ⟨_, _, rfl, rfl, small_n (by show u.length + 1 ≤ 1000; omega), ?_⟩
      walk_at "dl"
      refine ⟨small_n (by omega), ?_⟩
      walk_at "dl"
      have hv := cutS_length z (some (sp + 1)) none
      generalize cutS z (some (sp + 1)) none = v at hv
      have huc : (u ++ (⟨#[c]⟩ : Str)).length = u.length + 1 := by rw [len_tl, tl_append, List.length_append, ← len_tl]; rfl
      refine ⟨small_n (by omega), ?_⟩
      have hbt : isNameS (u ++ (⟨#[c]⟩ : Str) ++ v) = false := badN (c := c) (by rw [tl_append, tl_append]; simp [tl_one]) hcn
      have hbl : (u ++ (⟨#[c]⟩ : Str) ++ v).length ≤ 1000 := by rw [len_tl, tl_append, List.length_append, ← len_tl, ← len_tl]; omega
      generalize u ++ (⟨#[c]⟩ : Str) ++ v = bt at hbt hbl
      dsimp only [List.set]
      walk_at "dl"
      refine ⟨by decide, by decide, by decide, by decide, ?_⟩
      walk_at "dl"
      refine ⟨small_n (by rw [repS_len]; show z.length + 6 * 1 ≤ 1000; omega), ?_⟩
      have hlo : isNameS (z ++ repS "a" (6 : Int).toNat) = false := longN (by rw [len_tl, tl_append, List.length_append, ← len_tl, ← len_tl, repS_len]; show 6 < z.length + 6 * 1; omega)
      have hll : (z ++ repS "a" (6 : Int).toNat).length ≤ 1000 := by rw [len_tl, tl_append, List.length_append, ← len_tl, ← len_tl, repS_len]; show z.length + 6 * 1 ≤ 1000; omega
      generalize z ++ repS "a" (6 : Int).toNat = lg at hlo hll
      have hzt := goodN_name gz
      walk_at "dl"
      rw [show isNameD (.str z) = true from hzt, show isNameD (.str bt) = false from hbt, show isNameD (.str lg) = false from hlo]
      walk_at "dl"
      refine ⟨by repeat' walk_at "pl", ?_⟩
      walk_at "dl"
      -- the numbers
      refine ⟨by decide, by decide, fun k4 k40 k41 => ?_⟩
      walk_at "dl"
      generalize k4 - 5 * 10 ^ Int.toNat 5 = lo
      dsimp only [List.set]
      walk_at "dl"
      refine fun k5 hk5 => ?_
      obtain ⟨w5, hw50, hw5⟩ : ∃ w : Int, 0 ≤ w ∧ itemD (.lst [.int 0, .int 1, .int 2, .int 1000]) (.int (k5 : Int)) = some (.int w) := by
        match k5, hk5 with
        | 0, _ => exact ⟨0, by decide, rfl⟩
        | 1, _ => exact ⟨1, by decide, rfl⟩
        | 2, _ => exact ⟨2, by decide, rfl⟩
        | 3, _ => exact ⟨1000, by decide, rfl⟩
      refine ⟨_, hw5, ?_⟩
      walk_at "dl"
      have hhi : lo ≤ lo + w5 := by omega
      generalize lo + w5 = hi at hhi
      dsimp only [List.set]
      walk_at "dl"
      refine ev_lc_map (ei_list (ev_lst ?_))
      walk_at "dl"
      refine ⟨fun d => match d with
        | .int v => .bl (isNumD (.int v) lo hi)
        | _ => .non, fun dd hdd => ?_, ?_⟩
      · obtain ⟨v, rfl⟩ : ∃ v, dd = .int v := by
          simp at hdd
          rcases hdd with h | h | h | h <;> exact ⟨_, h⟩
        refine eg_name (by decide) ?_
        dsimp only [List.map, wipeG, List.set]
        walk_at "dl"
        exact rfl
      · dsimp only [List.map]
        rw [show isNumD (.int (lo - 1)) lo hi = false by show (decide (lo ≤ lo - 1) && _) = false; rw [decide_eq_false (by omega)]; rfl,
          show isNumD (.int lo) lo hi = true by show (decide (lo ≤ lo) && decide (lo ≤ hi)) = true; rw [decide_eq_true (Int.le_refl lo), decide_eq_true hhi]; rfl,
          show isNumD (.int hi) lo hi = true by show (decide (lo ≤ hi) && decide (hi ≤ hi)) = true; rw [decide_eq_true (Int.le_refl hi), decide_eq_true hhi]; rfl,
          show isNumD (.int (hi + 1)) lo hi = false by show (_ && decide (hi + 1 ≤ hi)) = false; rw [decide_eq_false (show ¬ hi + 1 ≤ hi by omega), Bool.and_false]]
        walk_at "dl"
        refine ⟨by repeat' walk_at "pl", ?_⟩
        walk_at "dl"
        refine fun k6 hk6 => ?_
        obtain ⟨e, he, hb6, hn6, hm6, hl6⟩ : ∃ e : D, itemD (.lst [.non, .bl true, .bl false, .str "", .str "1", .tup [.int 1], .lst [.int 1], .tup []]) (.int (k6 : Int)) = some e ∧ baseD e = true ∧ isNameD e = false ∧ isNumD e 0 1 = false ∧ ∀ z, e = .str z → z.length ≤ 1000 := by
          match k6, hk6 with
          | 0, _ => exact ⟨_, rfl, rfl, rfl, rfl, fun z e => by cases e⟩
          | 1, _ => exact ⟨_, rfl, rfl, rfl, rfl, fun z e => by cases e⟩
          | 2, _ => exact ⟨_, rfl, rfl, rfl, rfl, fun z e => by cases e⟩
          | 3, _ => exact ⟨_, rfl, rfl, rfl, rfl, fun z e => by cases e; decide⟩
          | 4, _ => exact ⟨_, rfl, rfl, rfl, rfl, fun z e => by cases e; decide⟩
          | 5, _ => exact ⟨_, rfl, rfl, rfl, rfl, fun z e => by cases e⟩
          | 6, _ => exact ⟨_, rfl, rfl, rfl, rfl, fun z e => by cases e⟩
          | 7, _ => exact ⟨_, rfl, rfl, rfl, rfl, fun z e => by cases e⟩
        refine ⟨_, he, ?_⟩
        dsimp only [List.set]
        walk_at "dl"
        refine ⟨hb6, hl6, ?_⟩
        rw [hn6]
        walk_at "dl"
        refine ⟨rfl, _, _, _, rfl, hb6, ?_⟩
        rw [hm6]
        walk_at "dl"
        refine ⟨by repeat' walk_at "pl", ?_⟩
        walk_at "dl"
        exact ⟨_, _, _, _, _, _, _, _, _, _, rfl⟩
  · obtain ⟨x3, x4, x5, x6, x7, x8, x9, x10, x11, x12, rfl⟩ := hΓ
    dsimp only
    walk_at "dl"
    refine ⟨by repeat' walk_at "pl", ?_⟩
    exact rfl
end
end K01

set_option maxHeartbeats 4000000
namespace K01
open PySem PySem.Spec PyProof.Rows L2 RZ TL DL
theorem all_mk {l : PySem.W.OpenLaw} {w : World} {K : PySem.W.Frag} {h : Heap} {mg : Str → Option Value} {fa a_is_name a_is_number a__law_box a__law_pull a__law_of a__law_same a_law : Addr} {t_LETTERS : Tok} {t_LONGEST_NAME : Tok} (X : K.In h) (G : h.Ns mainGlobals mg) (hfa : mg "law" = some (.ref fa))
    {od_is_name an_is_name od_is_number an_is_number od__law_box an__law_box od__law_pull an__law_pull od__law_of an__law_of od__law_same an__law_same od_law an_law : Option Addr} {sl_is_name sl_is_number sl__law_box sl__law_pull sl__law_of sl__law_same sl_law : Array (Option Value)} {oc_is_name kV_is_name dc_is_name pm_is_name cd_is_name ct_is_name oc_is_number kV_is_number dc_is_number pm_is_number cd_is_number ct_is_number oc__law_box kV__law_box dc__law_box pm__law_box cd__law_box ct__law_box oc__law_pull kV__law_pull dc__law_pull pm__law_pull cd__law_pull ct__law_pull oc__law_of kV__law_of dc__law_of pm__law_of cd__law_of ct__law_of oc__law_same kV__law_same dc__law_same pm__law_same cd__law_same ct__law_same oc_law kV_law dc_law pm_law cd_law ct_law : Value}
    (ais_name : PySem.W.nsIn K mainGlobals "is_name" = some (some (.ref a_is_name))) (lis_name : K.lookup a_is_name = some ⟨oc_is_name, od_is_name, .func (PySem.W.fnOf "is_name" "is_name" (defArgs s_is_name) (defBody s_is_name) (defScope s_is_name) .none kV_is_name dc_is_name pm_is_name an_is_name cd_is_name ct_is_name), sl_is_name⟩) (cis_name : PySem.W.codeIn K cd_is_name "is_name" = true) (kis_name : PySem.W.keepIn K (.ref a_is_name) = true)
    (ais_number : PySem.W.nsIn K mainGlobals "is_number" = some (some (.ref a_is_number))) (lis_number : K.lookup a_is_number = some ⟨oc_is_number, od_is_number, .func (PySem.W.fnOf "is_number" "is_number" (defArgs s_is_number) (defBody s_is_number) (defScope s_is_number) .none kV_is_number dc_is_number pm_is_number an_is_number cd_is_number ct_is_number), sl_is_number⟩) (cis_number : PySem.W.codeIn K cd_is_number "is_number" = true) (kis_number : PySem.W.keepIn K (.ref a_is_number) = true)
    (a_law_box : PySem.W.nsIn K mainGlobals "_law_box" = some (some (.ref a__law_box))) (l_law_box : K.lookup a__law_box = some ⟨oc__law_box, od__law_box, .func (PySem.W.fnOf "_law_box" "_law_box" (defArgs s__law_box) (defBody s__law_box) (defScope s__law_box) .none kV__law_box dc__law_box pm__law_box an__law_box cd__law_box ct__law_box), sl__law_box⟩) (c_law_box : PySem.W.codeIn K cd__law_box "_law_box" = true) (k_law_box : PySem.W.keepIn K (.ref a__law_box) = true)
    (a_law_pull : PySem.W.nsIn K mainGlobals "_law_pull" = some (some (.ref a__law_pull))) (l_law_pull : K.lookup a__law_pull = some ⟨oc__law_pull, od__law_pull, .func (PySem.W.fnOf "_law_pull" "_law_pull" (defArgs s__law_pull) (defBody s__law_pull) (defScope s__law_pull) .none kV__law_pull dc__law_pull pm__law_pull an__law_pull cd__law_pull ct__law_pull), sl__law_pull⟩) (c_law_pull : PySem.W.codeIn K cd__law_pull "_law_pull" = true) (k_law_pull : PySem.W.keepIn K (.ref a__law_pull) = true)
    (a_law_of : PySem.W.nsIn K mainGlobals "_law_of" = some (some (.ref a__law_of))) (l_law_of : K.lookup a__law_of = some ⟨oc__law_of, od__law_of, .func (PySem.W.fnOf "_law_of" "_law_of" (defArgs s__law_of) (defBody s__law_of) (defScope s__law_of) .none kV__law_of dc__law_of pm__law_of an__law_of cd__law_of ct__law_of), sl__law_of⟩) (c_law_of : PySem.W.codeIn K cd__law_of "_law_of" = true) (k_law_of : PySem.W.keepIn K (.ref a__law_of) = true)
    (a_law_same : PySem.W.nsIn K mainGlobals "_law_same" = some (some (.ref a__law_same))) (l_law_same : K.lookup a__law_same = some ⟨oc__law_same, od__law_same, .func (PySem.W.fnOf "_law_same" "_law_same" (defArgs s__law_same) (defBody s__law_same) (defScope s__law_same) .none kV__law_same dc__law_same pm__law_same an__law_same cd__law_same ct__law_same), sl__law_same⟩) (c_law_same : PySem.W.codeIn K cd__law_same "_law_same" = true) (k_law_same : PySem.W.keepIn K (.ref a__law_same) = true)
    (alaw : PySem.W.nsIn K mainGlobals "law" = some (some (.ref a_law))) (llaw : K.lookup a_law = some ⟨oc_law, od_law, .func (PySem.W.fnOf "law" "law" (defArgs s_law) (defBody s_law) (defScope s_law) .none kV_law dc_law pm_law an_law cd_law ct_law), sl_law⟩) (claw : PySem.W.codeIn K cd_law "law" = true) (klaw : PySem.W.keepIn K (.ref a_law) = true)
    (vLETTERS : PySem.W.nsIn K mainGlobals "LETTERS" = some (some (.str "abcdefghijklmnopqrstuvwxyz" t_LETTERS)))
    (vLONGEST_NAME : PySem.W.nsIn K mainGlobals "LONGEST_NAME" = some (some (.int 6 t_LONGEST_NAME)))
    (zabs : PySem.W.nsIn K mainGlobals "abs" = some none)
    (zall : PySem.W.nsIn K mainGlobals "all" = some none)
    (zbool : PySem.W.nsIn K mainGlobals "bool" = some none)
    (zint : PySem.W.nsIn K mainGlobals "int" = some none)
    (zisinstance : PySem.W.nsIn K mainGlobals "isinstance" = some none)
    (zlen : PySem.W.nsIn K mainGlobals "len" = some none)
    (zlist : PySem.W.nsIn K mainGlobals "list" = some none)
    (zrange : PySem.W.nsIn K mainGlobals "range" = some none)
    (zstr : PySem.W.nsIn K mainGlobals "str" = some none)
    (ztuple : PySem.W.nsIn K mainGlobals "tuple" = some none)
    (zzip : PySem.W.nsIn K mainGlobals "zip" = some none)
    : ∃ fd : FuncData, (∀ (s : Shared) (v : Value), BindsTo s fd ⟨[v], []⟩ [("_law_script", v)]) ∧ ∀ base : Heap, K.In base → base.Ns mainGlobals mg → FnOk l.prog w K mg base CX0 5 fa fd ["_law_script"] (spLaw K) := by
  have e := hfa.symm.trans (PySem.W.mg_of X G alaw)
  cases e
  have F_is_name := fun_mk (st := s_is_name) lis_name cis_name kis_name
  have F_is_number := fun_mk (st := s_is_number) lis_number cis_number kis_number
  have F__law_box := fun_mk (st := s__law_box) l_law_box c_law_box k_law_box
  have F__law_pull := fun_mk (st := s__law_pull) l_law_pull c_law_pull k_law_pull
  have F__law_of := fun_mk (st := s__law_of) l_law_of c_law_of k_law_of
  have F__law_same := fun_mk (st := s__law_same) l_law_same c_law_same k_law_same
  have F_law := fun_mk (st := s_law) llaw claw klaw
  have b_is_name := F_is_name.binds (ps := ["value"]) fun _ _ _ _ _ _ us hl => match us, hl with | [_], _ => rfl
  have b_is_number := F_is_number.binds (ps := ["value", "least", "most"]) fun _ _ _ _ _ _ us hl => match us, hl with | [_, _, _], _ => rfl
  have b__law_box := F__law_box.binds (ps := ["_law_script"]) fun _ _ _ _ _ _ us hl => match us, hl with | [_], _ => rfl
  have b__law_pull := F__law_pull.binds (ps := ["_law_box_here", "_law_many"]) fun _ _ _ _ _ _ us hl => match us, hl with | [_, _], _ => rfl
  have b__law_of := F__law_of.binds (ps := ["_law_box_here", "_law_some"]) fun _ _ _ _ _ _ us hl => match us, hl with | [_, _], _ => rfl
  have b__law_same := F__law_same.binds (ps := ["_law_found", "_law_due"]) fun _ _ _ _ _ _ us hl => match us, hl with | [_, _], _ => rfl
  have T : Txt K mg a_is_name a_is_number a__law_box a__law_pull a__law_of a__law_same t_LETTERS t_LONGEST_NAME := ⟨PySem.W.mg_of X G ais_name, PySem.W.mg_of X G ais_number, PySem.W.mg_of X G a_law_box, PySem.W.mg_of X G a_law_pull, PySem.W.mg_of X G a_law_of, PySem.W.mg_of X G a_law_same, PySem.W.mg_of X G vLETTERS, PySem.W.mg_of X G vLONGEST_NAME, PySem.W.mg_none_of X G zabs, PySem.W.mg_none_of X G zall, PySem.W.mg_none_of X G zbool, PySem.W.mg_none_of X G zint, PySem.W.mg_none_of X G zisinstance, PySem.W.mg_none_of X G zlen, PySem.W.mg_none_of X G zlist, PySem.W.mg_none_of X G zrange, PySem.W.mg_none_of X G zstr, PySem.W.mg_none_of X G ztuple, PySem.W.mg_none_of X G zzip⟩
  exact ⟨PySem.W.fnOf "law" "law" (defArgs s_law) (defBody s_law) (defScope s_law) .none kV_law dc_law pm_law an_law cd_law ct_law, fun s v => .of_eq rfl, fun base _ _ => ok_law F_law T F_is_name b_is_name F_is_number b_is_number F__law_box b__law_box F__law_pull b__law_pull F__law_of b__law_of F__law_same b__law_same⟩
end K01
open PySem PySem.W PyProof.Rows
set_option maxRecDepth 100000 in
set_option maxHeartbeats 0 in
theorem PySem.Challenge.cw_oncethrough_k01_names_and_numbers_holds : PySem.Challenge.rw_oncethrough_k01_names_and_numbers.Holds := by
  w_on; o_law; k_head; (case hw => w_witness2)
  k_fill
  refine L2.walk_of (l := PySem.Challenge.rw_oncethrough_k01_names_and_numbers) (n := 63) (k := 5) (x := "_law_script") (CX := fun _ => L2.CX0) (sp := fun w => K01.spLaw _) rfl (by decide) rfl ⟨rfl, by decide, by decide⟩ (fun w h Y => PySem.W.kIn_of Y) ?F (fun _ _ a ns hl _ hS => ⟨a, ns, rfl, hS, hl, fun _ => rfl⟩) (fun _ _ _ _ _ h => h)
  case F =>
    intro w mg fa h KX G hmg
    refine' K01.all_mk KX G hmg ?ais_name ?lis_name ?cis_name ?kis_name ?ais_number ?lis_number ?cis_number ?kis_number ?a_law_box ?l_law_box ?c_law_box ?k_law_box ?a_law_pull ?l_law_pull ?c_law_pull ?k_law_pull ?a_law_of ?l_law_of ?c_law_of ?k_law_of ?a_law_same ?l_law_same ?c_law_same ?k_law_same ?alaw ?llaw ?claw ?klaw ?vLETTERS ?vLONGEST_NAME ?zabs ?zall ?zbool ?zint ?zisinstance ?zlen ?zlist ?zrange ?zstr ?ztuple ?zzip
    (case ais_name => k_is)
    (case lis_name => k_is)
    (case cis_name => k_is)
    (case kis_name => k_is)
    (case ais_number => k_is)
    (case lis_number => k_is)
    (case cis_number => k_is)
    (case kis_number => k_is)
    (case a_law_box => k_is)
    (case l_law_box => k_is)
    (case c_law_box => k_is)
    (case k_law_box => k_is)
    (case a_law_pull => k_is)
    (case l_law_pull => k_is)
    (case c_law_pull => k_is)
    (case k_law_pull => k_is)
    (case a_law_of => k_is)
    (case l_law_of => k_is)
    (case c_law_of => k_is)
    (case k_law_of => k_is)
    (case a_law_same => k_is)
    (case l_law_same => k_is)
    (case c_law_same => k_is)
    (case k_law_same => k_is)
    (case alaw => k_is)
    (case llaw => k_is)
    (case claw => k_is)
    (case klaw => k_is)
    (case vLETTERS => k_is)
    (case vLONGEST_NAME => k_is)
    (case zabs => k_is)
    (case zall => k_is)
    (case zbool => k_is)
    (case zint => k_is)
    (case zisinstance => k_is)
    (case zlen => k_is)
    (case zlist => k_is)
    (case zrange => k_is)
    (case zstr => k_is)
    (case ztuple => k_is)
    (case zzip => k_is)
