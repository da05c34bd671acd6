import PyProof.Rows.All
import Wide.All
import OpenK.AllK
import Wide.FinOn
import HandS.ForMost
import HandS.Deep
import HandS.Star
import HandS.IsInst
import HandS.Strs
import HandS.Sort
import KE.SortData
import KE.DatumOrd
import KE.DatumMore
import HandS.SetFor
import HandS.Small
import KE.KDictPairs
import KE.GoesNew
import PySem.Challenge.RW_lothouse_k03_pieces_and_cells
set_option Elab.async false
set_option linter.all false
set_option maxRecDepth 100000
set_option maxHeartbeats 2000000
/-! Data at values, assertions about slots, and what expressions and statements do to them. -/
namespace Lh
open PySem PySem.Spec PyProof.Rows L2

/-! ### data at a value, off the addresses of A -/
mutual
inductive Dq (A : Addr → Prop) (H : Hp) : V → PyData → Prop
  | non : Dq A H .non .none
  | bl (b : Bool) : Dq A H (.bl b) (.bool b)
  | int (i : Int) : Dq A H (.int i) (.int i)
  | str (x : Str) : Dq A H (.str x) (.str x)
  | lst {a : Addr} {xs : List V} {ds : List PyData} : H a = some (.lst xs) → ¬ A a → DqA A H xs ds → Dq A H (.ref a) (.list ds)
  | tup {a : Addr} {xs : List V} {ds : List PyData} : H a = some (.tup xs) → ¬ A a → DqA A H xs ds → Dq A H (.ref a) (.tuple ds)
inductive DqA (A : Addr → Prop) (H : Hp) : List V → List PyData → Prop
  | nil : DqA A H [] []
  | cons {v : V} {vs : List V} {d : PyData} {ds : List PyData} : Dq A H v d → DqA A H vs ds → DqA A H (v :: vs) (d :: ds)
end
abbrev To (A : Addr → Prop) (H : Hp) (A' : Addr → Prop) (H' : Hp) : Prop := ∀ a o, H a = some o → ¬ A a → H' a = some o ∧ ¬ A' a
mutual
theorem Dq.to {A A' : Addr → Prop} {H H' : Hp} (k : To A H A' H') : ∀ {v : V} {d : PyData}, Dq A H v d → Dq A' H' v d
  | _, _, .non => .non
  | _, _, .bl b => .bl b
  | _, _, .int i => .int i
  | _, _, .str x => .str x
  | _, _, .lst h n t => .lst (k _ _ h n).1 (k _ _ h n).2 (DqA.to k t)
  | _, _, .tup h n t => .tup (k _ _ h n).1 (k _ _ h n).2 (DqA.to k t)
theorem DqA.to {A A' : Addr → Prop} {H H' : Hp} (k : To A H A' H') : ∀ {vs : List V} {ds : List PyData}, DqA A H vs ds → DqA A' H' vs ds
  | _, _, .nil => .nil
  | _, _, .cons h t => .cons (Dq.to k h) (DqA.to k t)
end
mutual
theorem Dq.dp {A : Addr → Prop} {H : Hp} (K : PySem.W.Frag) : ∀ {v : V} {d : PyData}, Dq A H v d → Dp K H v d
  | _, _, .non => .non
  | _, _, .bl b => .bl b
  | _, _, .int i => .int i
  | _, _, .str x => .str x
  | _, _, .lst h n t => .lst (.inl (.inl h)) (DqA.dp K t)
  | _, _, .tup h n t => .tup (.inl (.inl h)) (DqA.dp K t)
theorem DqA.dp {A : Addr → Prop} {H : Hp} (K : PySem.W.Frag) : ∀ {vs : List V} {ds : List PyData}, DqA A H vs ds → DpAll K H vs ds
  | _, _, .nil => .nil
  | _, _, .cons h t => .cons (Dq.dp K h) (DqA.dp K t)
end
theorem DqA.length {A : Addr → Prop} {H : Hp} : ∀ {vs : List V} {ds : List PyData}, DqA A H vs ds → vs.length = ds.length
  | _, _, .nil => rfl
  | _, _, .cons _ t => congrArg (· + 1) (DqA.length t)
theorem DqA.append {A : Addr → Prop} {H : Hp} : ∀ {vs ws : List V} {ds es : List PyData}, DqA A H vs ds → DqA A H ws es → DqA A H (vs ++ ws) (ds ++ es)
  | _, _, _, _, .nil, k => k
  | _, _, _, _, .cons h t, k => .cons h (DqA.append t k)
theorem DqA.get {A : Addr → Prop} {H : Hp} : ∀ {vs : List V} {ds : List PyData} {i : Nat} {d : PyData}, DqA A H vs ds → ds[i]? = some d → ∃ v, vs[i]? = some v ∧ Dq A H v d
  | _, _, _, _, .nil, e => by simp at e
  | _, _, 0, _, .cons h _, e => by
    simp at e
    subst e
    exact ⟨_, rfl, h⟩
  | _, _, i + 1, _, .cons _ t, e => by
    obtain ⟨v, h1, h2⟩ := DqA.get (i := i) t (by simpa using e)
    exact ⟨v, by simpa using h1, h2⟩
theorem DqA.getV {A : Addr → Prop} {H : Hp} : ∀ {vs : List V} {ds : List PyData} {i : Nat} {v : V}, DqA A H vs ds → vs[i]? = some v → ∃ d, ds[i]? = some d ∧ Dq A H v d
  | _, _, _, _, .nil, e => by simp at e
  | _, _, 0, _, .cons h _, e => by
    simp at e
    subst e
    exact ⟨_, rfl, h⟩
  | _, _, i + 1, _, .cons _ t, e => by
    obtain ⟨v, h1, h2⟩ := DqA.getV (i := i) t (by simpa using e)
    exact ⟨v, by simpa using h1, h2⟩
theorem DqA.take {A : Addr → Prop} {H : Hp} : ∀ {vs : List V} {ds : List PyData} (n : Nat), DqA A H vs ds → DqA A H (vs.take n) (ds.take n)
  | _, _, 0, _ => .nil
  | _, _, _ + 1, .nil => .nil
  | _, _, n + 1, .cons h t => .cons h (DqA.take n t)
theorem DqA.drop {A : Addr → Prop} {H : Hp} : ∀ {vs : List V} {ds : List PyData} (n : Nat), DqA A H vs ds → DqA A H (vs.drop n) (ds.drop n)
  | _, _, 0, h => h
  | _, _, _ + 1, .nil => .nil
  | _, _, n + 1, .cons _ t => DqA.drop n t
theorem DqA.ints {A : Addr → Prop} {H : Hp} : ∀ {vs : List V} {ns : List Int}, DqA A H vs (ns.map PyData.int) → vs = ns.map V.int
  | _, [], .nil => rfl
  | _, _ :: _, .cons h t => by
    cases h
    rw [DqA.ints t]
    rfl
theorem DqA.of_ints {A : Addr → Prop} {H : Hp} : ∀ {ns : List Int}, DqA A H (ns.map V.int) (ns.map PyData.int)
  | [] => .nil
  | _ :: _ => .cons (.int _) DqA.of_ints
theorem DqA.strs {A : Addr → Prop} {H : Hp} : ∀ {vs : List V} {ns : List Str}, DqA A H vs (ns.map PyData.str) → vs = ns.map V.str
  | _, [], .nil => rfl
  | _, _ :: _, .cons h t => by
    cases h
    rw [DqA.strs t]
    rfl
theorem DqA.of_strs {A : Addr → Prop} {H : Hp} : ∀ {ns : List Str}, DqA A H (ns.map V.str) (ns.map PyData.str)
  | [] => .nil
  | _ :: _ => .cons (.str _) DqA.of_strs

/-! ### assertions about a value that stay while nothing off A changes -/
structure Im where
  on : (Addr → Prop) → Hp → V → Prop
  mono : ∀ {A A' : Addr → Prop} {H H' : Hp} {v : V}, To A H A' H' → on A H v → on A' H' v
def isD (d : PyData) : Im := ⟨fun A H v => Dq A H v d, fun k h => h.to k⟩
def isP (P : PyData → Prop) : Im := ⟨fun A H v => ∃ d, Dq A H v d ∧ P d, fun k ⟨d, h, p⟩ => ⟨d, h.to k, p⟩⟩
def isV (v : V) : Im := ⟨fun _ _ u => u = v, fun _ h => h⟩
def isI (P : Int → Prop) : Im := ⟨fun _ _ v => ∃ i, v = .int i ∧ P i, fun _ h => h⟩
/-- all that stood at H off A stands -/
def later (A₀ : Addr → Prop) (H₀ : Hp) : Im := ⟨fun A H _ => To A₀ H₀ A H, fun k h a o e n => by
  obtain ⟨h1, h2⟩ := h a o e n
  exact k a o h1 h2⟩
structure Bx where
  on : (Addr → Prop) → Hp → HO → Prop
  mono : ∀ {A A' : Addr → Prop} {H H' : Hp} {o : HO}, To A H A' H' → on A H o → on A' H' o
/-- a list of these data -/
def bL (ds : List PyData) : Bx := ⟨fun A H o => ∃ xs, o = .lst xs ∧ DqA A H xs ds, fun k ⟨xs, e, h⟩ => ⟨xs, e, h.to k⟩⟩
/-- just this -/
def bO (o₀ : HO) : Bx := ⟨fun _ _ o => o = o₀, fun _ h => h⟩

inductive Ag where
  | im (f : Im)
  | box (p : Addr) (b : Bx)
abbrev D (d : PyData) : Ag := .im (isD d)
abbrev U (P : PyData → Prop) : Ag := .im (isP P)
abbrev Vl (v : V) : Ag := .im (isV v)

/-- where one stands: the heap at the def's start, what may change (M, with its invariant I at a count that ok bounds), what data keep off (A), what is carried (X) -/
structure Md where
  H0 : Hp
  M : Addr → Prop
  I : Nat → Hp → Prop
  ok : Nat → Prop
  A : Addr → Prop
  X : List (V × Im)
  itrk : ∀ {n : Nat} {H : Hp} {a : Addr}, I n H → M a → H a ≠ none
  imono : ∀ {n : Nat} {H H' : Hp}, I n H → (∀ a o, H a = some o → M a → H' a = some o) → I n H'
  iup : ∀ {n n' : Nat} {H : Hp}, I n H → n ≤ n' → I n' H
  okd : ∀ {n n' : Nat}, ok n' → n ≤ n' → ok n

def Ag.on (m : Md) (H : Hp) (v : V) : Ag → Prop
  | .im f => f.on m.A H v
  | .box p b => v = .ref p ∧ m.A p ∧ ¬ m.M p ∧ m.H0 p = none ∧ ∃ o, H p = some o ∧ b.on m.A H o

abbrev Gam := List (Option Ag)
/-- k is what may still be spent -/
structure Env (m : Md) (k : Nat) (Γ : Gam) (σ : L2.St) (H : Hp) : Prop where
  inv : ∃ n, m.ok (n + k) ∧ m.I n H
  fr : ∀ a o, m.H0 a = some o → ¬ m.M a → H a = some o
  sub : ∀ a, m.M a → m.A a
  trk : ∀ a, m.A a → H a ≠ none
  ex : ∀ x ∈ m.X, x.2.on m.A H x.1
  len : σ.length = Γ.length
  sl : ∀ (i : Nat) (g : Ag), Γ[i]? = some (some g) → ∃ v, σ[i]? = some (some v) ∧ g.on m H v

/-- nothing but M changes, which keeps its invariant; at most c is spent -/
structure Stp (m : Md) (c : Nat) (H H' : Hp) : Prop where
  kp : ∀ a o, H a = some o → ¬ m.M a → H' a = some o
  inv : ∀ n, m.ok (n + c) → m.I n H → m.I (n + c) H'

section
variable {m : Md} {k r c d : Nat} {Γ : Gam} {σ : L2.St} {H H' H1 H2 : Hp} {v : V} {g : Ag}
theorem Stp.refl : Stp m 0 H H := ⟨fun _ _ h _ => h, fun _ _ h => h⟩
theorem Stp.trans (a : Stp m c H H1) (b : Stp m d H1 H2) : Stp m (c + d) H H2 := ⟨fun x o h n => b.kp x o (a.kp x o h n) n, fun n ho h => by
  rw [← Nat.add_assoc] at ho ⊢
  exact b.inv _ ho (a.inv n (m.okd ho (Nat.le_add_right _ _)) h)⟩
theorem Stp.le (s : Stp m c H H') (h : c ≤ d := by omega) : Stp m d H H' := ⟨s.kp, fun n ho hi => m.iup (s.inv n (m.okd ho (Nat.add_le_add_left h n)) hi) (Nat.add_le_add_left h n)⟩
theorem Stp.to (s : Stp m c H H') (hs : ∀ a, m.M a → m.A a) : To m.A H m.A H' := fun a o h n => ⟨s.kp a o h fun z => n (hs a z), n⟩
theorem Ag.step (s : Stp m c H H') (hs : ∀ a, m.M a → m.A a) : ∀ {g : Ag}, g.on m H v → g.on m H' v
  | .im f, h => f.mono (s.to hs) h
  | .box p b, ⟨e, h1, h2, h3, o, h4, h5⟩ => ⟨e, h1, h2, h3, o, s.kp p o h4 h2, b.mono (s.to hs) h5⟩
theorem Env.le (E : Env m k Γ σ H) (h : r ≤ k := by omega) : Env m r Γ σ H := by
  obtain ⟨n, ho, hi⟩ := E.inv
  exact ⟨⟨n, m.okd ho (Nat.add_le_add_left h n), hi⟩, E.fr, E.sub, E.trk, E.ex, E.len, E.sl⟩
theorem Env.stepTo (E : Env m k Γ σ H) (kp : ∀ a o, H a = some o → ¬ m.M a → H' a = some o) (hi : ∃ n, m.ok (n + r) ∧ m.I n H') : Env m r Γ σ H' := by
  have t : To m.A H m.A H' := fun a o h n => ⟨kp a o h fun z => n (E.sub a z), n⟩
  refine ⟨hi, fun a o h n => kp a o (E.fr a o h n) n, E.sub, fun a ha => ?_, fun x hx => x.2.mono t (E.ex x hx), E.len, fun i g e => ?_⟩
  · by_cases hm : m.M a
    · obtain ⟨n, _, hi⟩ := hi
      exact m.itrk hi hm
    · cases e : H a with
      | none => exact absurd e (E.trk a ha)
      | some o => rw [kp a o e hm]; exact fun z => nomatch z
  · obtain ⟨v, h1, h2⟩ := E.sl i g e
    refine ⟨v, h1, ?_⟩
    cases g with
    | im f => exact f.mono t h2
    | box p b =>
      obtain ⟨e, h1, h2, h3, o, h4, h5⟩ := h2
      exact ⟨e, h1, h2, h3, o, kp p o h4 h2, b.mono t h5⟩
theorem Env.step (E : Env m k Γ σ H) (s : Stp m c H H') (h : c + r ≤ k := by omega) : Env m r Γ σ H' := by
  obtain ⟨n, ho, hi⟩ := E.inv
  refine E.stepTo s.kp ⟨n + c, m.okd ho (by omega), s.inv n (m.okd ho (by omega)) hi⟩
theorem Env.free (E : Env m k Γ σ H) {p : Addr} (h : H p = none) : ¬ m.A p := fun z => E.trk p z h
theorem Env.freeM (E : Env m k Γ σ H) {p : Addr} (h : H p = none) : ¬ m.M p := fun z => E.free h (E.sub p z)
theorem Env.free0 (E : Env m k Γ σ H) {p : Addr} (h : H p = none) : m.H0 p = none := by
  cases e : m.H0 p with
  | none => rfl
  | some o =>
    have := E.fr p o e (E.freeM h)
    rw [h] at this
    cases this
theorem Stp.ext (k : ∀ a o, H a = some o → H' a = some o) : Stp m 0 H H' := ⟨fun a o h _ => k a o h, fun n _ h => m.imono h fun a o h _ => k a o h⟩
theorem ext_new {p : Addr} {o : HO} (h : H p = none) : ∀ a u, H a = some u → (upd H p o) a = some u := fun a u e => by
  rw [upd_ne (ne_of_none e h)]
  exact e
theorem Stp.new {p : Addr} {o : HO} (h : H p = none) : Stp m 0 H (upd H p o) := Stp.ext (ext_new h)
end

/-! ### evaluation -/
def Ev (m : Md) (c : Nat) (te : TE) (Γ : Gam) (g : Ag) : Prop := ∀ σ H, Env m c Γ σ H → ∀ Q : VK, (∀ v H', Stp m c H H' → g.on m H' v → Q v H') → te σ H Q
def EvT (m : Md) (c : Nat) (tt : TT) (Γ : Gam) (P : Bool → Prop) : Prop := ∀ σ H, Env m c Γ σ H → ∀ Q : Bool → Hp → Prop, (∀ b H', Stp m c H H' → P b → Q b H') → tt σ H Q
inductive OnAll (m : Md) (H : Hp) : List V → List Ag → Prop
  | nil : OnAll m H [] []
  | cons {v : V} {vs : List V} {g : Ag} {gs : List Ag} : g.on m H v → OnAll m H vs gs → OnAll m H (v :: vs) (g :: gs)
def EvA (m : Md) (c : Nat) (ta : TA) (Γ : Gam) (gs : List Ag) : Prop := ∀ σ H, Env m c Γ σ H → ∀ Q : List V → Hp → Prop, (∀ vs H', Stp m c H H' → OnAll m H' vs gs → Q vs H') → ta σ H Q
theorem OnAll.step {m : Md} {c : Nat} {H H' : Hp} (s : Stp m c H H') (hs : ∀ a, m.M a → m.A a) : ∀ {vs : List V} {gs : List Ag}, OnAll m H vs gs → OnAll m H' vs gs
  | _, _, .nil => .nil
  | _, _, .cons h t => .cons (Ag.step s hs h) (OnAll.step s hs t)

/-- a flat value's datum -/
inductive Sc : V → PyData → Prop
  | non : Sc .non .none
  | bl (b : Bool) : Sc (.bl b) (.bool b)
  | int (i : Int) : Sc (.int i) (.int i)
  | str (x : Str) : Sc (.str x) (.str x)
theorem Sc.dq {A : Addr → Prop} {H : Hp} : ∀ {v : V} {d : PyData}, Sc v d → Dq A H v d
  | _, _, .non => .non
  | _, _, .bl b => .bl b
  | _, _, .int i => .int i
  | _, _, .str x => .str x

section
variable {m : Md} {ce ca cb ct cu cl cr : Nat} {Γ : Gam} {σ : L2.St} {H H' : Hp} {v x y z : V} {g g1 g2 : Ag} {te ta tb tc : TE} {tt tu : TT} {d e : PyData} {r : R2} {i j k : Int}
theorem Ev.imp (h : Ev m ce te Γ g1) (k : ∀ H v, g1.on m H v → g2.on m H v) : Ev m ce te Γ g2 := fun σ H E Q q => h σ H E.le Q fun v H' s o => q v H' s (k _ _ o)
theorem Ev.eq (h : Ev m ce te Γ (D d)) (k : d = e) : Ev m ce te Γ (D e) := k ▸ h
theorem Ev.toP {P : PyData → Prop} (h : Ev m ce te Γ (D d)) (p : P d) : Ev m ce te Γ (U P) := h.imp fun _ _ o => ⟨d, o, p⟩
theorem Ev.monoP {P P' : PyData → Prop} (h : Ev m ce te Γ (U P)) (p : ∀ d, P d → P' d) : Ev m ce te Γ (U P') := h.imp fun _ _ ⟨d, o, q⟩ => ⟨d, o, p d q⟩
theorem ev_var {n : Nat} (h : Γ[n]? = some (some g)) : Ev m 0 (tVar n) Γ g := fun σ H E Q q => by
  obtain ⟨v, h1, h2⟩ := E.sl n g h
  exact ⟨v, h1, q v H Stp.refl h2⟩
theorem ev_c (h : Sc v d) : Ev m 0 (tC v) Γ (D d) := fun σ H E Q q => q v H Stp.refl h.dq
theorem ev_cV : Ev m 0 (tC v) Γ (Vl v) := fun σ H E Q q => q v H Stp.refl rfl
/-- a two-place operation by values -/
theorem ev_op {g : Ag} (ha : Ev m ca ta Γ g1) (hb : Ev m cb tb Γ g2) (hr : ∀ σ H, Env m 0 Γ σ H → ∀ x y, g1.on m H x → g2.on m H y → ∀ Q : VK, (∀ v H', Stp m 0 H H' → g.on m H' v → Q v H') → r x y H Q) : Ev m (ca + cb) (tOp r ta tb) Γ g :=
  fun σ H E Q q => ha σ H E.le _ fun x H1 s1 o1 => hb σ H1 (E.step s1) _ fun y H2 s2 o2 => hr σ H2 (E.step (s1.trans s2)) x y (Ag.step s2 E.sub o1) o2 Q fun v H3 s3 o3 => q v H3 ((s1.trans s2).trans s3).le o3
theorem ev_opI0 {f : Int → Int → V} (ha : Ev m ca ta Γ (D (.int i))) (hb : Ev m cb tb Γ (D (.int j))) (hd : Sc (f i j) d) : Ev m (ca + cb) (tOp (rI0 f) ta tb) Γ (D d) :=
  ev_op ha hb fun σ H E x y o1 o2 Q q => by
    cases o1
    cases o2
    exact ⟨i, j, rfl, rfl, q _ H Stp.refl hd.dq⟩
theorem ev_opI {C : Int → Int → Prop} {f : Int → Int → V} (ha : Ev m ca ta Γ (D (.int i))) (hb : Ev m cb tb Γ (D (.int j))) (hc : C i j) (hd : Sc (f i j) d) : Ev m (ca + cb) (tOp (rI C f) ta tb) Γ (D d) :=
  ev_op ha hb fun σ H E x y o1 o2 Q q => by
    cases o1
    cases o2
    exact ⟨i, j, rfl, rfl, hc, q _ H Stp.refl hd.dq⟩
theorem ev_opI0P {f : Int → Int → V} {p q : Int → Prop} {P : PyData → Prop} (ha : Ev m ca ta Γ (.im (isI p))) (hb : Ev m cb tb Γ (.im (isI q))) (h : ∀ i j, p i → q j → ∃ d, Sc (f i j) d ∧ P d) : Ev m (ca + cb) (tOp (rI0 f) ta tb) Γ (U P) :=
  ev_op ha hb fun σ H E x y o1 o2 Q k => by
    obtain ⟨i, rfl, hi⟩ := o1
    obtain ⟨j, rfl, hj⟩ := o2
    obtain ⟨d, sd, pd⟩ := h i j hi hj
    exact ⟨i, j, rfl, rfl, k _ H Stp.refl ⟨d, sd.dq, pd⟩⟩
theorem ev_opI0I {f : Int → Int → Int} {p q : Int → Prop} {P : Int → Prop} (ha : Ev m ca ta Γ (.im (isI p))) (hb : Ev m cb tb Γ (.im (isI q))) (h : ∀ i j, p i → q j → P (f i j)) : Ev m (ca + cb) (tOp (rI0 fun i j => .int (f i j)) ta tb) Γ (.im (isI P)) :=
  ev_op ha hb fun σ H E x y o1 o2 Q k => by
    obtain ⟨i, rfl, hi⟩ := o1
    obtain ⟨j, rfl, hj⟩ := o2
    exact ⟨i, j, rfl, rfl, k _ H Stp.refl ⟨_, rfl, h i j hi hj⟩⟩
theorem Ev.toI (h : Ev m ce te Γ (D (.int i))) : Ev m ce te Γ (.im (isI (· = i))) := h.imp fun _ _ o => by
  cases o
  exact ⟨i, rfl, rfl⟩
theorem Ev.toIP {p : Int → Prop} (h : Ev m ce te Γ (D (.int i))) (hp : p i) : Ev m ce te Γ (.im (isI p)) := h.imp fun _ _ o => by
  cases o
  exact ⟨i, rfl, hp⟩
theorem ev_un {f : Int → V} (ha : Ev m ca ta Γ (D (.int i))) (hd : Sc (f i) d) : Ev m ca (tUn (rU f) ta) Γ (D d) := fun σ H E Q q => ha σ H E.le _ fun x H1 s1 o1 => by
  cases o1
  exact ⟨i, rfl, q _ H1 s1 hd.dq⟩
/-- == and != of any data; of flat values by rEq -/
theorem ev_eqD {K : PySem.W.Frag} (ha : Ev m ca ta Γ (D d)) (hb : Ev m cb tb Γ (D e)) (sd : SeqAt.shaped d = true) (se : SeqAt.shaped e = true) : Ev m (ca + cb) (tOp (rEqD K) ta tb) Γ (D (.bool (PyData.eqv d e))) :=
  ev_op ha hb fun σ H E x y o1 o2 Q q => ⟨d, e, Dq.dp K o1, Dq.dp K o2, sd, se, q _ H Stp.refl (.bl _)⟩
theorem ev_neD {K : PySem.W.Frag} (ha : Ev m ca ta Γ (D d)) (hb : Ev m cb tb Γ (D e)) (sd : SeqAt.shaped d = true) (se : SeqAt.shaped e = true) : Ev m (ca + cb) (tOp (rNeD K) ta tb) Γ (D (.bool (!PyData.eqv d e))) :=
  ev_op ha hb fun σ H E x y o1 o2 Q q => ⟨d, e, Dq.dp K o1, Dq.dp K o2, sd, se, q _ H Stp.refl (.bl _)⟩
theorem ev_inD {K : PySem.W.Frag} {ds : List PyData} (ha : Ev m ca ta Γ (D d)) (hb : Ev m cb tb Γ (D (.list ds))) (sd : SeqAt.shaped d = true) (se : SeqAt.shaped (.list ds) = true) : Ev m (ca + cb) (tOp (rInD K) ta tb) Γ (D (.bool (ds.any fun z => PyData.eqv z d))) :=
  ev_op ha hb fun σ H E x y o1 o2 Q q => ⟨d, ds, Dq.dp K o1, Dq.dp K o2, sd, se, q _ H Stp.refl (.bl _)⟩
theorem ev_notInD {K : PySem.W.Frag} {ds : List PyData} (ha : Ev m ca ta Γ (D d)) (hb : Ev m cb tb Γ (D (.list ds))) (sd : SeqAt.shaped d = true) (se : SeqAt.shaped (.list ds) = true) : Ev m (ca + cb) (tOp (rNotInD K) ta tb) Γ (D (.bool (!ds.any fun z => PyData.eqv z d))) :=
  ev_op ha hb fun σ H E x y o1 o2 Q q => ⟨d, ds, Dq.dp K o1, Dq.dp K o2, sd, se, q _ H Stp.refl (.bl _)⟩
/-- a list in a box, asked as a datum -/
theorem ev_boxD {K : PySem.W.Frag} {p : Addr} {ds : List PyData} (ha : Ev m ca ta Γ (D d)) (hb : Ev m cb tb Γ (.box p (bL ds))) (sd : SeqAt.shaped d = true) (se : SeqAt.shaped (.list ds) = true) : Ev m (ca + cb) (tOp (rInD K) ta tb) Γ (D (.bool (ds.any fun z => PyData.eqv z d))) :=
  ev_op ha hb fun σ H E x y o1 o2 Q q => by
    obtain ⟨rfl, _, _, _, o, ho, xs, rfl, hx⟩ := o2
    exact ⟨d, ds, Dq.dp K o1, .lst (.inl (.inl ho)) (hx.dp K), sd, se, q _ H Stp.refl (.bl _)⟩
theorem ev_boxNotD {K : PySem.W.Frag} {p : Addr} {ds : List PyData} (ha : Ev m ca ta Γ (D d)) (hb : Ev m cb tb Γ (.box p (bL ds))) (sd : SeqAt.shaped d = true) (se : SeqAt.shaped (.list ds) = true) : Ev m (ca + cb) (tOp (rNotInD K) ta tb) Γ (D (.bool (!ds.any fun z => PyData.eqv z d))) :=
  ev_op ha hb fun σ H E x y o1 o2 Q q => by
    obtain ⟨rfl, _, _, _, o, ho, xs, rfl, hx⟩ := o2
    exact ⟨d, ds, Dq.dp K o1, .lst (.inl (.inl ho)) (hx.dp K), sd, se, q _ H Stp.refl (.bl _)⟩

/-! arguments, displays -/
theorem eva_nil : EvA m 0 tNil Γ [] := fun σ H E Q q => q [] H Stp.refl .nil
theorem eva_cons {tr : TA} {gs : List Ag} (ha : Ev m ca ta Γ g) (hr : EvA m cr tr Γ gs) : EvA m (ca + cr) (tCons ta tr) Γ (g :: gs) := fun σ H E Q q =>
  ha σ H E.le _ fun x H1 s1 o1 => hr σ H1 (E.step s1) _ fun xs H2 s2 o2 => q _ H2 (s1.trans s2).le (.cons (Ag.step s2 E.sub o1) o2)
theorem OnAll.data {m : Md} {H : Hp} : ∀ {vs : List V} {ds : List PyData}, OnAll m H vs (ds.map D) → DqA m.A H vs ds
  | _, [], .nil => .nil
  | _, _ :: _, .cons h t => .cons h (OnAll.data t)
theorem OnAll.length {m : Md} {H : Hp} : ∀ {vs : List V} {gs : List Ag}, OnAll m H vs gs → vs.length = gs.length
  | _, _, .nil => rfl
  | _, _, .cons _ t => congrArg (· + 1) (OnAll.length t)
theorem Dq.newT {A : Addr → Prop} {p : Addr} {xs : List V} {ds : List PyData} (np : ¬ A p) (hp : H p = none) (h : DqA A H xs ds) : Dq A (upd H p (.tup xs)) (.ref p) (.tuple ds) :=
  .tup upd_same np (h.to fun a o e n => ⟨by rw [upd_ne (ne_of_none e hp)]; exact e, n⟩)
theorem Dq.newL {A : Addr → Prop} {p : Addr} {xs : List V} {ds : List PyData} (np : ¬ A p) (hp : H p = none) (h : DqA A H xs ds) : Dq A (upd H p (.lst xs)) (.ref p) (.list ds) :=
  .lst upd_same np (h.to fun a o e n => ⟨by rw [upd_ne (ne_of_none e hp)]; exact e, n⟩)
theorem ev_tup {t : TA} {ds : List PyData} (h : EvA m cl t Γ (ds.map D)) (hl : ds.length ≤ sizeLine) : Ev m cl (tTup t) Γ (D (.tuple ds)) := fun σ H E Q q =>
  h σ H E.le _ fun xs H1 s1 o1 => ⟨by rw [o1.length, List.length_map]; exact hl, fun p hp =>
    q _ _ (s1.trans (Stp.new hp)).le (Dq.newT ((E.step (r := 0) s1).free hp) hp o1.data)⟩
theorem ev_lst {t : TA} {ds : List PyData} (h : EvA m cl t Γ (ds.map D)) (hl : ds.length ≤ sizeLine) : Ev m cl (tLst t) Γ (D (.list ds)) := fun σ H E Q q =>
  h σ H E.le _ fun xs H1 s1 o1 => ⟨by rw [o1.length, List.length_map]; exact hl, fun p hp =>
    q _ _ (s1.trans (Stp.new hp)).le (Dq.newL ((E.step (r := 0) s1).free hp) hp o1.data)⟩
theorem ev_if {P : Bool → Prop} (h : EvT m ct tt Γ P) (ha : P true → Ev m ca ta Γ g) (hb : P false → Ev m cb tb Γ g) : Ev m (ct + ca + cb) (tIf tt ta tb) Γ g := fun σ H E Q q =>
  h σ H E.le _ fun b H1 s1 p => by
    cases b with
    | true =>
      show ta σ H1 Q
      exact ha p σ H1 (E.step s1) Q fun v H2 s2 o => q v H2 (s1.trans s2).le o
    | false =>
      show tb σ H1 Q
      exact hb p σ H1 (E.step s1) Q fun v H2 s2 o => q v H2 (s1.trans s2).le o
theorem ev_andV {b c : Bool} (ha : Ev m ca ta Γ (D (.bool b))) (hb : b = true → Ev m cb tb Γ (D (.bool c))) : Ev m (ca + cb) (tAndV ta tb) Γ (D (.bool (b && c))) := fun σ H E Q q =>
  ha σ H E.le _ fun x H1 s1 o1 => by
    cases o1
    refine ⟨b, rfl, ?_⟩
    cases b with
    | true =>
      show tb σ H1 Q
      exact hb rfl σ H1 (E.step s1) Q fun v H2 s2 o => q v H2 (s1.trans s2).le o
    | false =>
      show Q (.bl false) H1
      exact q _ H1 s1.le (.bl false)
theorem ev_orV {b c : Bool} (ha : Ev m ca ta Γ (D (.bool b))) (hb : b = false → Ev m cb tb Γ (D (.bool c))) : Ev m (ca + cb) (tOrV ta tb) Γ (D (.bool (b || c))) := fun σ H E Q q =>
  ha σ H E.le _ fun x H1 s1 o1 => by
    cases o1
    refine ⟨b, rfl, ?_⟩
    cases b with
    | true =>
      show Q (.bl true) H1
      exact q _ H1 s1.le (.bl true)
    | false =>
      show tb σ H1 Q
      exact hb rfl σ H1 (E.step s1) Q fun v H2 s2 o => q v H2 (s1.trans s2).le o
theorem ev_notV {b : Bool} (ha : Ev m ca ta Γ (D (.bool b))) : Ev m ca (tNotV ta) Γ (D (.bool (!b))) := fun σ H E Q q =>
  ha σ H E.le _ fun x H1 s1 o1 => by
    cases o1
    exact ⟨b, rfl, q _ H1 s1 (.bl _)⟩

/-! tests -/
theorem EvT.imp {P P' : Bool → Prop} (h : EvT m ct tt Γ P) (k : ∀ b, P b → P' b) : EvT m ct tt Γ P' := fun σ H E Q q => h σ H E.le Q fun b H' s p => q b H' s (k b p)
theorem et_test {b : Bool} (h : Ev m ce te Γ (D (.bool b))) : EvT m ce (tTest te) Γ (· = b) := fun σ H E Q q => h σ H E.le _ fun x H1 s1 o1 => by
  cases o1
  exact ⟨b, rfl, q b H1 s1 rfl⟩
theorem et_B {b : Bool} (h : Ev m ce te Γ (D (.bool b))) : EvT m ce (tB te) Γ (· = b) := fun σ H E Q q => h σ H E.le _ fun x H1 s1 o1 => by
  cases o1
  exact ⟨b, rfl, q b H1 s1 rfl⟩
theorem et_testP {P : Bool → Prop} (h : Ev m ce te Γ (U fun d => ∃ b, d = .bool b ∧ P b)) : EvT m ce (tTest te) Γ P := fun σ H E Q q => h σ H E.le _ fun x H1 s1 ⟨d, o1, b, e, p⟩ => by
  subst e
  cases o1
  exact ⟨b, rfl, q b H1 s1 p⟩
theorem et_and {P P' : Bool → Prop} (h1 : EvT m ct tt Γ P) (h2 : P true → EvT m cu tu Γ P') (hf : P false → P' false) : EvT m (ct + cu) (tAnd tt tu) Γ P' := fun σ H E Q q => h1 σ H E.le _ fun b H1 s1 p => by
  cases b with
  | true =>
    show tu σ H1 Q
    exact h2 p σ H1 (E.step s1) Q fun c H2 s2 p2 => q c H2 (s1.trans s2).le p2
  | false =>
    show Q false H1
    exact q false H1 s1.le (hf p)
theorem et_or {P P' : Bool → Prop} (h1 : EvT m ct tt Γ P) (h2 : P false → EvT m cu tu Γ P') (hf : P true → P' true) : EvT m (ct + cu) (tOr tt tu) Γ P' := fun σ H E Q q => h1 σ H E.le _ fun b H1 s1 p => by
  cases b with
  | false =>
    show tu σ H1 Q
    exact h2 p σ H1 (E.step s1) Q fun c H2 s2 p2 => q c H2 (s1.trans s2).le p2
  | true =>
    show Q true H1
    exact q true H1 s1.le (hf p)
theorem et_not {P : Bool → Prop} (h : EvT m ct tt Γ P) : EvT m ct (tNot tt) Γ (fun b => P (!b)) := fun σ H E Q q => h σ H E.le _ fun b H1 s1 p => q (!b) H1 s1 (by show P (!!b); rw [Bool.not_not]; exact p)
theorem et_yes : EvT m 0 tYes Γ (· = true) := fun σ H E Q q => q true H Stp.refl rfl
theorem Ev.up {c c' : Nat} {g : Ag} (h : Ev m c te Γ g) (k : c ≤ c' := by omega) : Ev m c' te Γ g := fun σ H E Q q => h σ H E.le Q fun v H' s o => q v H' s.le o
theorem EvT.up {c c' : Nat} {P : Bool → Prop} (h : EvT m c tt Γ P) (k : c ≤ c' := by omega) : EvT m c' tt Γ P := fun σ H E Q q => h σ H E.le Q fun b H' s p => q b H' s.le p
end
end Lh

set_option Elab.async false
set_option linter.all false
set_option maxRecDepth 100000
set_option maxHeartbeats 2000000
namespace Lh
open PySem PySem.Spec PyProof.Rows L2

/-! ### places: more to keep off, more to carry -/
def Md.add (m : Md) (p : Addr) : Md := { m with A := fun a => m.A a ∨ a = p }
def Md.del (m : Md) (p : Addr) : Md := { m with A := fun a => m.A a ∧ a ≠ p }
def Md.car (m : Md) (v : V) (f : Im) : Md := { m with X := (v, f) :: m.X }
def Md.lt (m : Md) (H : Hp) : Md := m.car .non (later m.A H)
section
variable {m : Md} {k r c : Nat} {Γ : Gam} {σ : L2.St} {H H' H1 H2 : Hp} {v : V} {g : Ag} {p : Addr}
theorem to_addNew {A : Addr → Prop} {o : HO} (h : H p = none) : To A H (fun a => A a ∨ a = p) (upd H p o) := fun a u e n => by
  have hne : a ≠ p := ne_of_none e h
  exact ⟨by rw [upd_ne hne]; exact e, fun z => z.elim n hne⟩
/-- no slot's box is at p -/
def NoBox (p : Addr) (Γ : Gam) : Prop := ∀ (i : Nat) (q : Addr) (b : Bx), Γ[i]? = some (some (Ag.box q b)) → q ≠ p
theorem Env.made (E : Env m k Γ σ H) {o : HO} (h : H p = none) : Env (m.add p) k Γ σ (upd H p o) := by
  have kk : ∀ a u, H a = some u → (upd H p o) a = some u := ext_new h
  refine ⟨E.inv.imp fun n hn => ⟨hn.1, m.imono hn.2 fun a u e _ => kk a u e⟩, fun a u e n => kk a u (E.fr a u e n), fun a ha => .inl (E.sub a ha), fun a ha => ?_, fun x hx => x.2.mono (to_addNew h) (E.ex x hx), E.len, fun i g e => ?_⟩
  · rcases ha with ha | rfl
    · cases e : H a with
      | none => exact absurd e (E.trk a ha)
      | some u => rw [kk a u e]; exact fun z => nomatch z
    · rw [upd_same]; exact fun z => nomatch z
  · obtain ⟨v, h1, h2⟩ := E.sl i g e
    refine ⟨v, h1, ?_⟩
    cases g with
    | im f => exact f.mono (to_addNew h) h2
    | box q b =>
      obtain ⟨e1, h3, h4, h5, u, h6, h7⟩ := h2
      exact ⟨e1, .inl h3, h4, h5, u, kk q u h6, b.mono (to_addNew h) h7⟩
/-- what stands at a box changes -/
theorem Env.put (E : Env m k Γ σ H) {o : HO} (hA : m.A p) (hM : ¬ m.M p) (h0 : m.H0 p = none) (hb : NoBox p Γ) : Env m k Γ σ (upd H p o) := by
  have kk : ∀ a u, a ≠ p → H a = some u → (upd H p o) a = some u := fun a u n e => by rw [upd_ne n]; exact e
  have t : To m.A H m.A (upd H p o) := fun a u e n => ⟨kk a u (fun z => n (z ▸ hA)) e, n⟩
  refine ⟨E.inv.imp fun n hn => ⟨hn.1, m.imono hn.2 fun a u e hm => kk a u (fun z => hM (z ▸ hm)) e⟩, fun a u e n => kk a u (fun z => by rw [z, h0] at e; cases e) (E.fr a u e n), E.sub, fun a ha => ?_, fun x hx => x.2.mono t (E.ex x hx), E.len, fun i g e => ?_⟩
  · by_cases z : a = p
    · rw [z, upd_same]; exact fun z => nomatch z
    · rw [upd_ne z]; exact E.trk a ha
  · obtain ⟨v, h1, h2⟩ := E.sl i g e
    refine ⟨v, h1, ?_⟩
    cases g with
    | im f => exact f.mono t h2
    | box q b =>
      obtain ⟨e1, h3, h4, h5, u, h6, h7⟩ := h2
      exact ⟨e1, h3, h4, h5, u, kk q u (hb i q b e) h6, b.mono t h7⟩
theorem Env.set (E : Env m k Γ σ H) {i : Nat} (h : g.on m H v) : Env m k (Γ.set i (some g)) (σ.set i (some v)) H := by
  refine ⟨E.inv, E.fr, E.sub, E.trk, E.ex, by rw [List.length_set, List.length_set]; exact E.len, fun j g' e => ?_⟩
  by_cases z : i = j
  · subst z
    by_cases hl : i < Γ.length
    · rw [List.getElem?_set_self hl] at e
      cases e
      exact ⟨v, by rw [List.getElem?_set_self (by rw [E.len]; exact hl)], h⟩
    · rw [List.getElem?_eq_none (by rw [List.length_set]; omega)] at e
      cases e
  · rw [List.getElem?_set_ne z] at e
    obtain ⟨u, h1, h2⟩ := E.sl j g' e
    exact ⟨u, by rw [List.getElem?_set_ne z]; exact h1, h2⟩
/-- weaker words for the slots -/
theorem Env.weak {Γ' : Gam} (E : Env m k Γ σ H) (hl : Γ'.length = Γ.length) (h : ∀ (i : Nat) (g' : Ag), Γ'[i]? = some (some g') → ∃ g : Ag, Γ[i]? = some (some g) ∧ ∀ v, g.on m H v → g'.on m H v) : Env m k Γ' σ H :=
  ⟨E.inv, E.fr, E.sub, E.trk, E.ex, E.len.trans hl.symm, fun i g' e => by
    obtain ⟨g, e1, k⟩ := h i g' e
    obtain ⟨v, h1, h2⟩ := E.sl i g e1
    exact ⟨v, h1, k v h2⟩⟩
def wipeG (Γ : Gam) : List Nat → Gam
  | [] => Γ
  | v :: vs => (wipeG Γ vs).set v none
theorem Env.drop1 (E : Env m k Γ σ H) (i : Nat) {o : Option V} : Env m k (Γ.set i none) (σ.set i o) H := by
  refine ⟨E.inv, E.fr, E.sub, E.trk, E.ex, by rw [List.length_set, List.length_set]; exact E.len, fun j g' e => ?_⟩
  by_cases z : i = j
  · subst z
    by_cases hl : i < Γ.length
    · rw [List.getElem?_set_self hl] at e
      cases e
    · rw [List.getElem?_eq_none (by rw [List.length_set]; omega)] at e
      cases e
  · rw [List.getElem?_set_ne z] at e
    obtain ⟨u, h1, h2⟩ := E.sl j g' e
    exact ⟨u, by rw [List.getElem?_set_ne z]; exact h1, h2⟩
theorem Env.forget (E : Env m k Γ σ H) (i : Nat) : Env m k (Γ.set i none) σ H := by
  refine ⟨E.inv, E.fr, E.sub, E.trk, E.ex, by rw [List.length_set]; exact E.len, fun j g' e => ?_⟩
  by_cases z : i = j
  · subst z
    by_cases hl : i < Γ.length
    · rw [List.getElem?_set_self hl] at e
      cases e
    · rw [List.getElem?_eq_none (by rw [List.length_set]; omega)] at e
      cases e
  · rw [List.getElem?_set_ne z] at e
    exact E.sl j g' e
theorem Env.wipe (E : Env m k Γ σ H) : ∀ vs : List Nat, Env m k (wipeG Γ vs) (wipe σ vs) H
  | [] => E
  | v :: vs => (E.wipe vs).drop1 v
theorem Env.car (E : Env m k Γ σ H) {f : Im} (h : f.on m.A H v) : Env (m.car v f) k Γ σ H :=
  ⟨E.inv, E.fr, E.sub, E.trk, fun x hx => by
    rcases List.mem_cons.mp hx with rfl | hx
    · exact h
    · exact E.ex x hx, E.len, fun i g e => by
    obtain ⟨v, h1, h2⟩ := E.sl i g e
    refine ⟨v, h1, ?_⟩
    cases g with
    | im f => exact h2
    | box q b => exact h2⟩
theorem Env.lt (E : Env m k Γ σ H) : Env (m.lt H) k Γ σ H := E.car (v := .non) (f := later m.A H) fun a o e n => ⟨e, n⟩
theorem Env.uncar {f : Im} (E : Env (m.car v f) k Γ σ H) : Env m k Γ σ H :=
  ⟨E.inv, E.fr, E.sub, E.trk, fun x hx => E.ex x (List.mem_cons_of_mem _ hx), E.len, fun i g e => by
    obtain ⟨v, h1, h2⟩ := E.sl i g e
    refine ⟨v, h1, ?_⟩
    cases g with
    | im f => exact h2
    | box q b => exact h2⟩
theorem Env.held {f : Im} (E : Env (m.car v f) k Γ σ H) : f.on m.A H v := E.ex (v, f) List.mem_cons_self
/-- a box is left: what stands there changes no more -/
theorem To.del {A : Addr → Prop} : To A H (fun a => A a ∧ a ≠ p) H := fun a o e n => ⟨e, fun z => n z.1⟩
theorem Env.leave (E : Env m k Γ σ H) (hM : ¬ m.M p) (hb : NoBox p Γ) : Env (m.del p) k Γ σ H := by
  refine ⟨E.inv, E.fr, fun a ha => ⟨E.sub a ha, fun z => hM (z ▸ ha)⟩, fun a ha => E.trk a ha.1, fun x hx => x.2.mono To.del (E.ex x hx), E.len, fun i g e => ?_⟩
  obtain ⟨v, h1, h2⟩ := E.sl i g e
  refine ⟨v, h1, ?_⟩
  cases g with
  | im f => exact f.mono To.del h2
  | box q b =>
    obtain ⟨e1, h3, h4, h5, u, h6, h7⟩ := h2
    exact ⟨e1, ⟨h3, hb i q b e⟩, h4, h5, u, h6, b.mono To.del h7⟩
theorem NoBox.set {i : Nat} {f : Im} (h : NoBox p Γ) : NoBox p (Γ.set i (some (.im f))) := fun j q b e => by
  by_cases z : i = j
  · subst z
    by_cases hl : i < Γ.length
    · rw [List.getElem?_set_self hl] at e
      cases e
    · rw [List.getElem?_eq_none (by rw [List.length_set]; omega)] at e
      cases e
  · rw [List.getElem?_set_ne z] at e
    exact h j q b e
/-- a list's box becomes a datum: nothing is to change it any more -/
theorem Env.seal (E : Env m k Γ σ H) {i : Nat} {ds : List PyData} (h : Γ[i]? = some (some (.box p (bL ds)))) (hb : NoBox p (Γ.set i none)) : Env (m.del p) k (Γ.set i (some (D (.list ds)))) σ H := by
  obtain ⟨v, h1, rfl, h3, h4, h5, o, h6, xs, rfl, h7⟩ := E.sl i _ h
  have E1 := (E.forget i).leave h4 hb
  have E2 := E1.set (i := i) (v := .ref p) (g := D (.list ds)) (.lst h6 (fun z => z.2 rfl) (h7.to To.del))
  rw [List.set_set] at E2
  have es : σ.set i (some (V.ref p)) = σ := by
    obtain ⟨hl, e⟩ := List.getElem?_eq_some_iff.mp h1
    rw [← e]
    exact List.set_getElem_self hl
  rw [es] at E2
  exact E2
end

/-! ### what is walked -/
def Walks (A₀ : Addr → Prop) (H1 : Hp) (J : It) (gs : List Im) : Prop := ∀ (A' : Addr → Prop) H', To A₀ H1 A' H' → (∀ a, A' a → H' a ≠ none) →
  (∀ i g, gs[i]? = some g → J.go i H' ∧ ∀ x H'', J.yld i H' x H'' → (∀ a o, H' a = some o → H'' a = some o) ∧ g.on A' H'' x) ∧ J.stop gs.length H'
def EvI (m : Md) (c : Nat) (wi : TI) (Γ : Gam) (gs : List Im) : Prop := ∀ σ H, Env m c Γ σ H → ∀ R : It → Hp → Prop, (∀ J H', Stp m c H H' → Walks m.A H' J gs → R J H') → wi σ H R
section
variable {m : Md} {ce cx k : Nat} {Γ : Gam} {σ : L2.St} {H H' : Hp} {te tx : TE} {ta : TA} {ds : List PyData} {K : PySem.W.Frag}
theorem walks_lst {A₀ : Addr → Prop} {a : Addr} (h : Dq A₀ H (.ref a) (.list ds)) : Walks A₀ H (Itl K a) (ds.map isD) := fun A' H' k hA => by
  cases h with
  | lst h1 h2 h3 =>
    rename_i xs
    have e := (k _ _ h1 h2).1
    have h4 := h3.to k
    refine ⟨fun i g hg => ?_, xs, .inl (.inl e), ?_⟩
    · rw [List.getElem?_map] at hg
      cases ed : ds[i]? with
      | none => rw [ed] at hg; cases hg
      | some d =>
        rw [ed] at hg
        cases hg
        obtain ⟨v, ev, hv⟩ := h4.get ed
        refine ⟨⟨xs, v, .inl (.inl e), ev⟩, fun x H'' hy => ?_⟩
        obtain ⟨rfl, hy⟩ := hy
        have := hy xs (.inl (.inl e))
        rw [ev] at this
        cases this
        exact ⟨fun _ _ h => h, hv⟩
    · rw [List.length_map, h4.length]
      exact Nat.le_refl _
theorem walks_tup {A₀ : Addr → Prop} {a : Addr} (h : Dq A₀ H (.ref a) (.tuple ds)) : Walks A₀ H (Itt K a) (ds.map isD) := fun A' H' k hA => by
  cases h with
  | tup h1 h2 h3 =>
    rename_i xs
    have e := (k _ _ h1 h2).1
    have h4 := h3.to k
    refine ⟨fun i g hg => ?_, xs, .inl (.inl e), ?_⟩
    · rw [List.getElem?_map] at hg
      cases ed : ds[i]? with
      | none => rw [ed] at hg; cases hg
      | some d =>
        rw [ed] at hg
        cases hg
        obtain ⟨v, ev, hv⟩ := h4.get ed
        refine ⟨⟨xs, v, .inl (.inl e), ev⟩, fun x H'' hy => ?_⟩
        obtain ⟨rfl, hy⟩ := hy
        have := hy xs (.inl (.inl e))
        rw [ev] at this
        cases this
        exact ⟨fun _ _ h => h, hv⟩
    · rw [List.length_map, h4.length]
      exact Nat.le_refl _
theorem ei_list (h : Ev m ce te Γ (D (.list ds))) : EvI m ce (iList K te) Γ (ds.map isD) := fun σ H E R q => h σ H E.le _ fun v H' s o => by
  have o' : Dq m.A H' v (.list ds) := o
  cases o' with
  | lst h1 h2 h3 => exact ⟨_, rfl, ⟨_, .inl (.inl h1)⟩, q _ _ s (walks_lst (.lst h1 h2 h3))⟩
theorem ei_tup (h : Ev m ce te Γ (D (.tuple ds))) : EvI m ce (iTup K te) Γ (ds.map isD) := fun σ H E R q => h σ H E.le _ fun v H' s o => by
  have o' : Dq m.A H' v (.tuple ds) := o
  cases o' with
  | tup h1 h2 h3 => exact ⟨_, rfl, ⟨_, .inl (.inl h1)⟩, q _ _ s (walks_tup (.tup h1 h2 h3))⟩
/-- the ints lo, lo + 1, .. (n of them) -/
def rng (lo : Int) (n : Nat) : List PyData := (List.range n).map fun i => .int (lo + (i : Nat))
theorem walks_rng {A₀ : Addr → Prop} {lo : Int} {n : Nat} : Walks A₀ H (Itr lo n) ((rng lo n).map isD) := fun A' H' k hA => by
  refine ⟨fun i g hg => ?_, ?_⟩
  · unfold rng at hg
    rw [List.map_map, List.getElem?_map] at hg
    by_cases hi : i < n
    · rw [List.getElem?_range hi] at hg
      cases hg
      refine ⟨hi, fun x H'' hy => ?_⟩
      obtain ⟨rfl, rfl⟩ := hy
      exact ⟨fun _ _ h => h, .int _⟩
    · rw [List.getElem?_eq_none (by rw [List.length_range]; omega)] at hg
      cases hg
  · show n ≤ _
    unfold rng
    rw [List.length_map, List.length_map, List.length_range]
    exact Nat.le_refl _
theorem ei_rng1 {n : Int} (h : Ev m ce te Γ (D (.int n))) (h1 : -(2 ^ 62) ≤ n) (h2 : n < 2 ^ 62) : EvI m ce (iRng1 (tCons te tNil)) Γ ((rng 0 n.toNat).map isD) := fun σ H E R q => h σ H E.le _ fun v H' s o => by
  cases o
  exact ⟨n, rfl, h1, h2, q _ _ s walks_rng⟩
theorem ei_rng2 {a n : Int} (h : Ev m ce te Γ (D (.int a))) (h' : Ev m cx tx Γ (D (.int n))) (hb : -(2 ^ 62) ≤ a ∧ a < 2 ^ 62 ∧ -(2 ^ 62) ≤ n ∧ n < 2 ^ 62) : EvI m (ce + cx) (iRng2 (tCons te (tCons tx tNil))) Γ ((rng a (n - a).toNat).map isD) := fun σ H E R q => h σ H E.le _ fun v H' s o => by
  cases o
  refine h' σ H' (E.step s) _ fun v2 H2 s2 o2 => ?_
  cases o2
  exact ⟨a, n, rfl, hb, q _ _ (s.trans s2).le walks_rng⟩
/-- a text's signs -/
def signsD (z : Str) : List PyData := z.cps.toList.map fun c => .str ⟨#[c]⟩
theorem walks_str {A₀ : Addr → Prop} {z : Str} : Walks A₀ H (Its z) ((signsD z).map isD) := fun A' H' k hA => by
  refine ⟨fun i g hg => ?_, ?_⟩
  · unfold signsD at hg
    rw [List.map_map, List.getElem?_map] at hg
    cases e : z.cps.toList[i]? with
    | none => rw [e] at hg; cases hg
    | some c =>
      rw [e] at hg
      cases hg
      have e' : z.cps[i]? = some c := by rw [← Array.getElem?_toList]; exact e
      refine ⟨by
        have := (Array.getElem?_eq_some_iff.mp e').1
        exact this, fun x H'' hy => ?_⟩
      obtain ⟨rfl, c', ec, rfl⟩ := hy
      rw [e'] at ec
      cases ec
      exact ⟨fun _ _ h => h, .str _⟩
  · show z.cps.size ≤ _
    unfold signsD
    rw [List.length_map, List.length_map, Array.length_toList]
    exact Nat.le_refl _
theorem ei_str {z : Str} (h : Ev m ce te Γ (D (.str z))) : EvI m ce (iStr te) Γ ((signsD z).map isD) := fun σ H E R q => h σ H E.le _ fun v H' s o => by
  cases o
  exact ⟨z, rfl, q _ _ s walks_str⟩

/-! ### targets -/
/-- taking such a value leads to such slots -/
def Tg (m : Md) (g : TG) (Γ : Gam) (f : Im) (Γ' : Gam) (vs : List Nat) : Prop := ∀ k σ H v, Env m k Γ σ H → f.on m.A H v → ∀ Q : L2.St → Hp → Prop, (∀ σ', Env m k Γ' σ' H → (∀ ws : List Nat, (∀ i ∈ vs, i ∈ ws) → wipe σ' ws = wipe σ ws) → Q σ' H) → g v σ H Q
theorem wipe_set {x : Option V} {i : Nat} : ∀ (ws : List Nat) (σ : L2.St), i ∈ ws → wipe (σ.set i x) ws = wipe σ ws
  | [], _, h => absurd h (by simp)
  | w :: ws, σ, h => by
    unfold wipe
    by_cases hi : i ∈ ws
    · rw [wipe_set ws σ hi]
    · have e : i = w := by
        rcases List.mem_cons.mp h with h | h
        · exact h
        · exact absurd h hi
      subst e
      have : ∀ (us : List Nat) (τ : L2.St), i ∉ us → wipe (τ.set i x) us = (wipe τ us).set i x := by
        intro us
        induction us with
        | nil => intro τ _; rfl
        | cons u us ih =>
          intro τ hn
          unfold wipe
          rw [ih τ (fun z => hn (List.mem_cons_of_mem _ z)), List.set_comm _ _ (fun z => hn (by rw [z]; exact List.mem_cons_self))]
      rw [this ws σ hi, List.set_set]
theorem tg_name {i : Nat} {f : Im} : Tg m (gName i) Γ f (Γ.set i (some (.im f))) [i] := fun k σ H v E o Q q =>
  q _ (E.set o) fun ws h => wipe_set ws σ (h i (by simp))
theorem tg_pair {i j : Nat} {d e : PyData} (hij : i ≠ j) : Tg m (gTup K 2 (gCons (gName i) (gCons (gName j) gNil))) Γ (isD (.tuple [d, e])) ((Γ.set i (some (D d))).set j (some (D e))) [i, j] := fun k σ H v E o Q q => by
  have o' : Dq m.A H v (.tuple [d, e]) := o
  cases o' with
  | tup h1 h2 h3 =>
    cases h3 with
    | cons a1 h4 =>
      cases h4 with
      | cons a2 h5 =>
        cases h5
        exact ⟨_, _, rfl, .inl (.inl h1), rfl, _, _, rfl, _, _, rfl, rfl, q _ ((E.set (g := D d) a1).set (g := D e) a2) fun ws h => by
          rw [wipe_set ws _ (h j (by simp)), wipe_set ws _ (h i (by simp))]⟩
end
end Lh

set_option Elab.async false
set_option linter.all false
set_option maxRecDepth 100000
set_option maxHeartbeats 2000000
namespace Lh
open PySem PySem.Spec PyProof.Rows L2

section
variable {m : Md} {k r c cw ct ce ca : Nat} {Γ : Gam} {σ : L2.St} {H H' H1 H2 : Hp} {v : V} {g : Ag} {p : Addr} {wi : TI} {tg : TG} {tt : TT} {te ta tb : TE} {t : TA} {tbd tth tel : TS} {K : PySem.W.Frag} {De : Ends} {d : PyData} {ds : List PyData}
theorem wipe_wipe : ∀ (vs : List Nat) (σ : L2.St), wipe (wipe σ vs) vs = wipe σ vs := fun vs σ => by
  have : ∀ (us : List Nat), (∀ u ∈ us, u ∈ vs) → wipe (wipe σ us) vs = wipe σ vs := by
    intro us
    induction us with
    | nil => intro _; rfl
    | cons u us ih =>
      intro h
      show wipe ((wipe σ us).set u none) vs = wipe σ vs
      rw [wipe_set vs _ (h u List.mem_cons_self), ih fun u' h' => h u' (List.mem_cons_of_mem _ h')]
  exact this vs fun _ h => h
theorem Env.noBox (E : Env m k Γ σ H) (h : H p = none) : NoBox p Γ := fun i q b e => by
  obtain ⟨v, _, _, _, _, _, o, h6, _⟩ := E.sl i _ e
  exact ne_of_none h6 h

/-- a comprehension: Rl i es, the first i items have given es -/
theorem ev_lc {gs : List Im} {vs : List Nat} (hI : EvI m cw wi Γ gs) (hz : gs.length ≤ sizeLine) (Rl : Nat → List PyData → Prop) (h0 : Rl 0 [])
    (hs : ∀ Dp i g es, gs[i]? = some g → Rl i es → ∃ Γ' vs0, Tg (m.add Dp) tg (wipeG Γ vs) g Γ' vs0 ∧ (∀ i ∈ vs0, i ∈ vs) ∧ ∃ P : Bool → Prop, EvT (m.add Dp) ct tt Γ' P ∧
      (P true → ∃ G, Ev (m.add Dp) ce te Γ' (U G) ∧ ∀ e, G e → Rl (i + 1) (es ++ [e])) ∧ (P false → Rl (i + 1) es)) :
    Ev m (cw + gs.length * (ct + ce)) (tLc wi tg tt te vs) Γ (U fun d => ∃ es, d = .list es ∧ Rl gs.length es ∧ es.length ≤ gs.length) := fun σ H E Q q => hI σ H E.le _ fun J H1 s1 wk Dp hD => by
  have E1 : Env m (gs.length * (ct + ce)) Γ σ H1 := E.step s1
  have nM : ¬ m.M Dp := E1.freeM hD
  have nA : ¬ m.A Dp := E1.free hD
  have nb : NoBox Dp (wipeG Γ vs) := (E1.wipe vs).noBox hD
  refine ⟨fun i n H2 => n + i = gs.length ∧ Stp m (i * (ct + ce)) H1 H2 ∧ Env (m.add Dp) (n * (ct + ce)) (wipeG Γ vs) (wipe σ vs) H2 ∧ ∃ acc es, H2 Dp = some (.lst acc) ∧ DqA (m.add Dp).A H2 acc es ∧ Rl i es ∧ es.length ≤ i,
    ⟨gs.length, rfl, (Stp.new hD).le, (E1.wipe vs).made hD, [], [], upd_same, .nil, h0, Nat.le_refl _⟩, fun i n H2 ⟨en, s2, E2, acc, es, eD, ha, hr, hl⟩ => ?_⟩
  have k2 : To m.A H1 (m.add Dp).A H2 := fun a o h n => ⟨s2.kp a o h fun z => n (E1.sub a z), fun z => z.elim n (ne_of_none h hD)⟩
  obtain ⟨w1, w2⟩ := wk (m.add Dp).A H2 k2 E2.trk
  by_cases hi : i < gs.length
  · obtain ⟨go, turn⟩ := w1 i gs[i] (List.getElem?_eq_getElem hi)
    obtain ⟨n', rfl⟩ : ∃ n', n = n' + 1 := ⟨n - 1, by omega⟩
    have eu : (n' + 1) * (ct + ce) = n' * (ct + ce) + (ct + ce) := Nat.succ_mul ..
    have ev : (i + 1) * (ct + ce) = i * (ct + ce) + (ct + ce) := Nat.succ_mul ..
    refine .inr ⟨go, fun H3 => Stp m ((i + 1) * (ct + ce)) H1 H3 ∧ Env (m.add Dp) (n' * (ct + ce)) (wipeG Γ vs) (wipe σ vs) H3 ∧ ∃ acc es, H3 Dp = some (.lst acc) ∧ DqA (m.add Dp).A H3 acc es ∧ Rl (i + 1) es ∧ es.length ≤ i + 1,
      fun H3 ⟨a, b, c⟩ => ⟨n', by omega, by omega, a, b, c⟩, fun x H3 hy => ?_⟩
    obtain ⟨k3, gx⟩ := turn x H3 hy
    have s3 : Stp (m.add Dp) 0 H2 H3 := Stp.ext k3
    have E3 : Env (m.add Dp) (n' * (ct + ce) + (ct + ce)) (wipeG Γ vs) (wipe σ vs) H3 := E2.step s3
    obtain ⟨Γ', vs0, htg, hsub, P, ht, hT, hF⟩ := hs Dp i gs[i] es (List.getElem?_eq_getElem hi) hr
    refine htg _ _ H3 x E3 gx _ fun σ' E4 hw => ⟨by rw [hw vs hsub, wipe_wipe], ?_⟩
    refine ht σ' H3 E4.le _ fun b H4 s4 pb => ?_
    cases b with
    | true =>
      obtain ⟨G, hG, hn⟩ := hT pb
      show te σ' H4 _
      refine hG σ' H4 (E4.step s4) _ fun y H5 s5 ⟨e, oe, ge⟩ => ?_
      have s25 : Stp (m.add Dp) (ct + ce) H2 H5 := ((s3.trans s4).trans s5).le
      have E5 : Env (m.add Dp) (n' * (ct + ce)) (wipeG Γ vs) (wipe σ vs) H5 := E2.step s25
      have ha5 := ha.to (s25.to E2.sub)
      refine ⟨acc, s25.kp _ _ eD nM, by rw [ha.length]; omega, ?_, E5.put (.inr rfl) nM (E1.free0 hD) nb, acc ++ [y], es ++ [e], upd_same, ?_, hn e ge, by rw [List.length_append]; show es.length + 1 ≤ i + 1; omega⟩
      · refine ⟨fun a o h n => ?_, fun n ho hn => m.imono (H := H5) ?_ fun a o h hm => ?_⟩
        · rw [upd_ne (ne_of_none h hD)]
          exact s25.kp a o (s2.kp a o h n) n
        · rw [ev, ← Nat.add_assoc] at ho ⊢
          exact s25.inv _ ho (s2.inv n (m.okd ho (Nat.le_add_right _ _)) hn)
        · rw [upd_ne (fun z : a = Dp => nM (z ▸ hm))]
          exact h
      · have t : To (m.add Dp).A H5 (m.add Dp).A (upd H5 Dp (.lst (acc ++ [y]))) := fun a o h n => ⟨by rw [upd_ne (fun z => n (.inr z))]; exact h, n⟩
        exact (ha5.append (.cons oe .nil)).to t
    | false =>
      show Stp m _ H1 H4 ∧ _
      have s24 : Stp (m.add Dp) (ct + ce) H2 H4 := (s3.trans s4).le
      exact ⟨⟨fun a o h n => s24.kp a o (s2.kp a o h n) n, fun n ho hn => by
        rw [ev, ← Nat.add_assoc] at ho ⊢
        exact s24.inv _ ho (s2.inv n (m.okd ho (Nat.le_add_right _ _)) hn)⟩, E2.step s24, acc, es, s24.kp _ _ eD nM, ha.to (s24.to E2.sub), hF pb, by omega⟩
  · have hi' : i = gs.length := by omega
    subst hi'
    refine .inl ⟨w2, q _ _ (s1.trans s2) ⟨.list es, ?_, es, rfl, hr, hl⟩⟩
    exact .lst eD nA (ha.to fun a o h n => ⟨h, fun z => n (.inl z)⟩)
/-- of data, the test and the element known functions -/
theorem ev_lcD {vs : List Nat} {j : Nat} (c : PyData → Bool) (f : PyData → PyData) (hI : EvI m cw wi Γ (ds.map isD)) (hz : ds.length ≤ sizeLine) (hj : j ∈ vs)
    (hs : ∀ Dp d, d ∈ ds → EvT (m.add Dp) ct tt ((wipeG Γ vs).set j (some (Lh.D d))) (· = c d) ∧ (c d = true → Ev (m.add Dp) ce te ((wipeG Γ vs).set j (some (Lh.D d))) (Lh.D (f d)))) :
    Ev m (cw + ds.length * (ct + ce)) (tLc wi (gName j) tt te vs) Γ (Lh.D (.list ((ds.filter c).map f))) := by
  have hh : Ev m (cw + (ds.map isD).length * (ct + ce)) (tLc wi (gName j) tt te vs) Γ (Lh.D (.list ((ds.filter c).map f))) := ?_
  · rw [List.length_map] at hh
    exact hh
  refine (ev_lc hI (by rw [List.length_map]; exact hz) (fun i es => es = ((ds.take i).filter c).map f) rfl ?_).imp ?_
  · intro Dp i g es hg hr
    rw [List.getElem?_map] at hg
    cases e : ds[i]? with
    | none => rw [e] at hg; cases hg
    | some d =>
      rw [e] at hg
      cases hg
      obtain ⟨h1, h2⟩ := hs Dp d (List.mem_of_getElem? e)
      have et : ds.take (i + 1) = ds.take i ++ [d] := by rw [List.take_add_one, e]; rfl
      refine ⟨_, _, tg_name, fun i hi => by rw [List.mem_singleton.mp hi]; exact hj, _, h1, fun p => ⟨_, (h2 p.symm).toP (P := (· = f d)) rfl, fun e' q => ?_⟩, fun p => ?_⟩
      · show es ++ [e'] = _
        rw [q, hr, et, List.filter_append, List.map_append]
        congr 1
        rw [List.filter_cons_of_pos (by rw [← p])]
        rfl
      · show es = _
        rw [hr, et, List.filter_append, List.map_append]
        rw [List.filter_cons_of_neg (by rw [← p]; exact Bool.false_ne_true)]
        exact (List.append_nil _).symm
  · intro H v ⟨d, o, es, e1, e2, _⟩
    rw [List.length_map, List.take_length] at e2
    rw [← e2, ← e1]
    exact o

/-! ### statements -/
/-- of k one spends c and keeps r -/
def Md.Spend (m : Md) (k c r : Nat) : Prop := (∀ n, m.ok n) ∨ c + r ≤ k
theorem fr {c' : Nat} (h : ∀ n, m.ok n := by intro _; trivial) : m.Spend k c' 0 := .inl h
theorem sp {c' : Nat} (h : c' ≤ k) : m.Spend k c' (k - c') := .inr (by omega)
theorem Env.lend (E : Env m k Γ σ H) (hs : m.Spend k c r) : Env m c Γ σ H := by
  rcases hs with h | h
  · exact ⟨E.inv.imp fun n hn => ⟨h _, hn.2⟩, E.fr, E.sub, E.trk, E.ex, E.len, E.sl⟩
  · exact E.le
theorem Env.pay (E : Env m k Γ σ H) (s : Stp m c H H') (hs : m.Spend k c r) : Env m r Γ σ H' := by
  rcases hs with h | h
  · obtain ⟨n, ho, hi⟩ := E.inv
    exact E.stepTo s.kp ⟨n + c, h _, s.inv n (h _) hi⟩
  · exact E.step s
theorem go_set {i : Nat} (E : Env m k Γ σ H) (hs : m.Spend k c r) (h : Ev m c te Γ g) (q : ∀ σ' H', Env m r (Γ.set i (some g)) σ' H' → De.nx σ' H') : tAsg te (gName i) De σ H :=
  h σ H (E.lend hs) _ fun v H' s o => q _ H' ((E.pay s hs).set o)
theorem go_asg {vs : List Nat} {f : Im} {Γ' : Gam} (E : Env m k Γ σ H) (hs : m.Spend k c r) (h : Ev m c te Γ (.im f)) (hg : Tg m tg Γ f Γ' vs) (q : ∀ σ' H', Env m r Γ' σ' H' → De.nx σ' H') : tAsg te tg De σ H :=
  h σ H (E.lend hs) _ fun v H' s o => hg r σ H' v (E.pay s hs) o _ fun σ' E' _ => q σ' H' E'
theorem go_ret (E : Env m k Γ σ H) (hs : m.Spend k c r) (h : Ev m c te Γ g) (q : ∀ v H', Stp m c H H' → Env m r Γ σ H' → g.on m H' v → De.rt v H') : tRet te De σ H :=
  h σ H (E.lend hs) _ fun v H' s o => q v H' s (E.pay s hs) o
theorem go_expr (E : Env m k Γ σ H) (hs : m.Spend k c r) (h : Ev m c te Γ g) (q : ∀ H', Env m r Γ σ H' → De.nx σ H') : tDrop te De σ H :=
  h σ H (E.lend hs) _ fun v H' s o => q H' (E.pay s hs)
theorem go_if {P : Bool → Prop} (E : Env m k Γ σ H) (hs : m.Spend k c r) (h : EvT m c tt Γ P) (k1 : P true → ∀ H', Env m r Γ σ H' → tth De σ H') (k2 : P false → ∀ H', Env m r Γ σ H' → tel De σ H') : tIfS tt tth tel De σ H :=
  h σ H (E.lend hs) _ fun b H' s p => by
    cases b with
    | true =>
      show tth De σ H'
      exact k1 p H' (E.pay s hs)
    | false =>
      show tel De σ H'
      exact k2 p H' (E.pay s hs)
/-- two names at once -/
theorem go_par {i j : Nat} {g1 g2 : Ag} (E : Env m k Γ σ H) (hs : m.Spend k c r) (h : EvA m c t Γ [g1, g2]) (q : ∀ σ' H', Env m r ((Γ.set i (some g1)).set j (some g2)) σ' H' → De.nx σ' H') : tPar i j t De σ H :=
  h σ H (E.lend hs) _ fun vs H' s o => by
    cases o with
    | cons o1 o2 =>
      cases o2 with
      | cons o2 o3 =>
        cases o3
        exact ⟨_, _, rfl, q _ _ (((E.pay s hs).set o1).set o2)⟩
/-- a new list that will change -/
theorem go_box {i : Nat} (E : Env m k Γ σ H) (hs : m.Spend k c r) (h : EvA m c t Γ (ds.map Lh.D)) (hz : ds.length ≤ sizeLine) (q : ∀ p σ' H', NoBox p Γ → ¬ m.A p → ¬ m.M p → Env (m.add p) r (Γ.set i (some (.box p (bL ds)))) σ' H' → De.nx σ' H') : tAsg (tLst t) (gName i) De σ H :=
  h σ H (E.lend hs) _ fun xs H1 s o => ⟨by rw [o.length, List.length_map]; exact hz, fun p hp => by
    have E1 := E.pay s hs
    refine q p _ _ (E1.noBox hp) (E1.free hp) (E1.freeM hp) ((E1.made hp).set ⟨rfl, .inr rfl, E1.freeM hp, E1.free0 hp, _, upd_same, xs, rfl, o.data.to (to_addNew hp)⟩)⟩
theorem NoBox.set' {i : Nat} {o : Option Ag} (h : NoBox p Γ) (ho : ∀ q b, o = some (.box q b) → q ≠ p) : NoBox p (Γ.set i o) := fun j q b e => by
  by_cases z : i = j
  · subst z
    by_cases hl : i < Γ.length
    · rw [List.getElem?_set_self hl] at e
      exact ho q b (Option.some.inj e)
    · rw [List.getElem?_eq_none (by rw [List.length_set]; omega)] at e
      cases e
  · rw [List.getElem?_set_ne z] at e
    exact h j q b e
theorem slot_back {i : Nat} {v : V} (h1 : σ[i]? = some (some v)) : σ.set i (some v) = σ := by
  obtain ⟨hl, e⟩ := List.getElem?_eq_some_iff.mp h1
  rw [← e]
  exact List.set_getElem_self hl
/-- a box's content changes to o -/
theorem Env.rebox (E : Env m k Γ σ H) {i : Nat} {b b' : Bx} {o : HO} (h : Γ[i]? = some (some (.box p b))) (hb : NoBox p (Γ.set i none)) (ho : b'.on m.A H o) : Env m k (Γ.set i (some (.box p b'))) σ (upd H p o) := by
  obtain ⟨v, h1, rfl, h3, h4, h5, o1, h6, h7⟩ := E.sl i _ h
  have t : To m.A H m.A (upd H p o) := fun a u e n => ⟨by rw [upd_ne (fun z : a = p => n (z ▸ h3))]; exact e, n⟩
  have E2 := ((E.forget i).put (o := o) h3 h4 h5 hb).set (i := i) (v := .ref p) (g := .box p b') ⟨rfl, h3, h4, h5, o, upd_same, b'.mono t ho⟩
  rw [List.set_set, slot_back h1] at E2
  exact E2
theorem go_append {i : Nat} {P : PyData → Prop} (E : Env m k Γ σ H) (hs : m.Spend k c r) (hi : Γ[i]? = some (some (.box p (bL ds)))) (h : Ev m c te Γ (U P)) (hz : ds.length < sizeLine) (hb : NoBox p (Γ.set i none))
    (q : ∀ d H', P d → Env m r (Γ.set i (some (.box p (bL (ds ++ [d]))))) σ H' → De.nx σ H') : tDrop (tBM K "list" rAppend (tVar i) (tCons te tNil)) De σ H := by
  obtain ⟨v, h1, rfl, h3, h4, h5, o, h6, xs, rfl, h7⟩ := E.sl i _ hi
  refine ⟨_, h1, .inl ⟨rfl, _, .inl (.inl h6)⟩, h σ H (E.lend hs) _ fun y H1 s ⟨d, od, pd⟩ => ?_⟩
  have E1 := E.pay s hs
  have e6 := s.kp _ _ h6 h4
  have a7 := h7.to (s.to E.sub)
  exact ⟨p, xs, y, rfl, rfl, e6, by rw [h7.length]; exact hz, q d _ pd (E1.rebox hi hb ⟨_, rfl, a7.append (.cons od .nil)⟩)⟩
/-- loops: Inv i Γ k, what holds ahead of turn i with k to spend -/
theorem go_for {gs : List Im} (E : Env m k Γ σ H) (hs : m.Spend k c r) (hI : EvI m c wi Γ gs) (Inv : Nat → Gam → Nat → Prop) (h0 : Inv 0 Γ r)
    (ht : ∀ H1 i g Γ' k' σ' H' v, gs[i]? = some g → Inv i Γ' k' → Env (m.lt H1) k' Γ' σ' H' → g.on (m.lt H1).A H' v → tg v σ' H' fun σ2 H2 => tbd { De with nx := fun σ H => ∃ Γ' k', Inv (i + 1) Γ' k' ∧ Env (m.lt H1) k' Γ' σ H, ct := fun σ H => ∃ Γ' k', Inv (i + 1) Γ' k' ∧ Env (m.lt H1) k' Γ' σ H, bk := De.nx } σ2 H2)
    (hd : ∀ Γ' k' σ' H', Inv gs.length Γ' k' → Env m k' Γ' σ' H' → De.nx σ' H') : tFor wi tg tbd De σ H := hI σ H (E.lend hs) _ fun J H1 s1 wk => by
  have E1 := E.pay s1 hs
  refine ⟨fun i n σ2 H2 => n + i = gs.length ∧ ∃ Γ' k', Inv i Γ' k' ∧ Env (m.lt H1) k' Γ' σ2 H2, ⟨gs.length, rfl, Γ, r, h0, E1.lt⟩, fun i n σ2 H2 ⟨en, Γ', k', hi', E2⟩ => ?_⟩
  have k2 : To m.A H1 m.A H2 := E2.held
  obtain ⟨w1, w2⟩ := wk m.A H2 k2 E2.trk
  by_cases hi : i < gs.length
  · obtain ⟨go, turn⟩ := w1 i gs[i] (List.getElem?_eq_getElem hi)
    refine .inr ⟨go, fun σ H => ∃ Γ' k', Inv (i + 1) Γ' k' ∧ Env (m.lt H1) k' Γ' σ H, fun σ' H' h => ⟨n - 1, by omega, by omega, h⟩, fun x H3 hy => ?_⟩
    obtain ⟨k3, gx⟩ := turn x H3 hy
    exact ht H1 i gs[i] Γ' k' σ2 H3 x (List.getElem?_eq_getElem hi) hi' (E2.step (Stp.ext k3)) gx
  · have e : i = gs.length := by omega
    subst e
    exact .inl ⟨w2, hd Γ' k' σ2 H2 hi' E2.uncar⟩
/-- the target a name -/
theorem go_for1 {gs : List Im} {j : Nat} (E : Env m k Γ σ H) (hs : m.Spend k c r) (hI : EvI m c wi Γ gs) (Inv : Nat → Gam → Nat → Prop) (h0 : Inv 0 Γ r)
    (ht : ∀ H1 i g Γ' k' σ' H', gs[i]? = some g → Inv i Γ' k' → Env (m.lt H1) k' (Γ'.set j (some (.im g))) σ' H' → tbd { De with nx := fun σ H => ∃ Γ' k', Inv (i + 1) Γ' k' ∧ Env (m.lt H1) k' Γ' σ H, ct := fun σ H => ∃ Γ' k', Inv (i + 1) Γ' k' ∧ Env (m.lt H1) k' Γ' σ H, bk := De.nx } σ' H')
    (hd : ∀ Γ' k' σ' H', Inv gs.length Γ' k' → Env m k' Γ' σ' H' → De.nx σ' H') : tFor wi (gName j) tbd De σ H :=
  go_for E hs hI Inv h0 (fun H1 i g Γ' k' σ' H' v hg hi E' o => ht H1 i g Γ' k' _ H' hg hi (E'.set (g := .im g) o)) hd
theorem go_while (E : Env m k Γ σ H) (Inv : Nat → Gam → Nat → Prop) {n0 : Nat} (h0 : Inv n0 Γ k)
    (ht : ∀ n Γ' k', Inv n Γ' k' → ∃ c r P, m.Spend k' c r ∧ EvT m c tt Γ' P ∧ (P true → ∀ σ' H', Env m r Γ' σ' H' → tbd { De with nx := fun σ H => ∃ n' Γ' k', n' < n ∧ Inv n' Γ' k' ∧ Env m k' Γ' σ H, ct := fun σ H => ∃ n' Γ' k', n' < n ∧ Inv n' Γ' k' ∧ Env m k' Γ' σ H, bk := De.nx } σ' H') ∧
      (P false → ∀ σ' H', Env m r Γ' σ' H' → De.nx σ' H')) : tWhile tt tbd De σ H := by
  refine ⟨fun n σ H => ∃ Γ' k', Inv n Γ' k' ∧ Env m k' Γ' σ H, ⟨n0, Γ, k, h0, E⟩, fun n σ' H' ⟨Γ', k', hi, E'⟩ => ?_⟩
  obtain ⟨c, r, P, hs, hc, hT, hF⟩ := ht n Γ' k' hi
  refine hc σ' H' (E'.lend hs) _ fun b H2 s p => ?_
  cases b with
  | true =>
    show ∃ N : L2.St → Hp → Prop, _
    exact ⟨fun σ H => ∃ n' Γ' k', n' < n ∧ Inv n' Γ' k' ∧ Env m k' Γ' σ H, fun σ' H' ⟨n', Γ', k', a, b, c⟩ => ⟨n', a, Γ', k', b, c⟩, hT p σ' H2 (E'.pay s hs)⟩
  | false =>
    show De.nx σ' H2
    exact hF p σ' H2 (E'.pay s hs)
/-- what a slot holds, opened -/
theorem Env.open_ {i : Nat} {P : PyData → Prop} (E : Env m k Γ σ H) (h : Γ[i]? = some (some (U P))) : ∃ d, P d ∧ Env m k (Γ.set i (some (Lh.D d))) σ H := by
  obtain ⟨v, h1, d, h2, h3⟩ := E.sl i _ h
  refine ⟨d, h3, ?_⟩
  have E2 := E.set (i := i) (v := v) (g := Lh.D d) h2
  rw [slot_back h1] at E2
  exact E2
theorem Env.openI {i : Nat} {P : Int → Prop} (E : Env m k Γ σ H) (h : Γ[i]? = some (some (.im (isI P)))) : ∃ z, P z ∧ Env m k (Γ.set i (some (Lh.D (.int z)))) σ H := by
  obtain ⟨v, h1, z, rfl, h3⟩ := E.sl i _ h
  refine ⟨z, h3, ?_⟩
  have E2 := E.set (i := i) (v := .int z) (g := Lh.D (.int z)) (.int z)
  rw [slot_back h1] at E2
  exact E2
end

/-! ### defs that change nothing -/
/-- from such data to such a datum -/
def spD (rel : List PyData → PyData → Prop) : Sp := fun vs H Q _ => ∃ A ds d, DqA A H vs ds ∧ (∀ a, A a → H a ≠ none) ∧ rel ds d ∧ ∀ v H', (∀ a o, H a = some o → H' a = some o) → Dq A H' v d → Q v H'
/-- the answer is a new list -/
def spL (rel : List PyData → List PyData → Prop) : Sp := fun vs H Q _ => ∃ A ds es, DqA A H vs ds ∧ (∀ a, A a → H a ≠ none) ∧ rel ds es ∧ ∀ p xs H', (∀ a o, H a = some o → H' a = some o) → H p = none → H' p = some (.lst xs) → DqA (fun a => A a ∨ a = p) H' xs es → Q (.ref p) H'
def m0 (A : Addr → Prop) (H : Hp) : Md := { H0 := H, M := fun _ => False, I := fun _ _ => True, ok := fun _ => True, A := A, X := [], itrk := fun _ h => h.elim, imono := fun _ _ => trivial, iup := fun _ _ => trivial, okd := fun _ _ => trivial }
def startG (n : Nat) (ds : List PyData) : Gam := ds.map (fun d => some (D d)) ++ List.replicate (n - ds.length) none
theorem env_start {A : Addr → Prop} {H : Hp} {N : List Str} {vs : List V} {ds : List PyData} (h : DqA A H vs ds) (ht : ∀ a, A a → H a ≠ none) : Env (m0 A H) 0 (startG N.length ds) (L2.start N vs) H := by
  refine ⟨⟨0, trivial, trivial⟩, fun _ _ h _ => h, fun _ h => h.elim, ht, fun _ h => absurd h (by show _ ∉ []; simp), ?_, fun i g e => ?_⟩
  · unfold L2.start startG
    rw [List.length_append, List.length_append, List.length_map, List.length_map, List.length_replicate, List.length_replicate, h.length]
  · unfold startG at e
    by_cases hi : i < ds.length
    · rw [List.getElem?_append_left (by rw [List.length_map]; exact hi), List.getElem?_map] at e
      cases ed : ds[i]? with
      | none => rw [ed] at e; cases e
      | some d =>
        rw [ed] at e
        cases e
        obtain ⟨v, ev, hv⟩ := h.get ed
        refine ⟨v, ?_, hv⟩
        unfold L2.start
        rw [List.getElem?_append_left (by rw [List.length_map, h.length]; exact hi), List.getElem?_map, ev]
        rfl
    · rw [List.getElem?_append_right (by rw [List.length_map]; omega), List.getElem?_replicate] at e
      split at e <;> cases e
section
variable {m : Md} {k r c : Nat} {Γ : Gam} {σ : L2.St} {H H' : Hp} {v : V} {t tk : TA} {De : Ends} {d : PyData} {ds es : List PyData} {Ex : XK}
theorem ev_call {rel : List PyData → PyData → Prop} (h : EvA m c t Γ (ds.map D)) (hr : rel ds d) : Ev m c (tCall (spD rel) [] Ex t) Γ (D d) := fun σ H E Q q =>
  h σ H E _ fun vs H1 s o => ⟨m.A, ds, d, by rw [List.append_nil]; exact o.data, (E.step (r := 0) s).trk, hr, fun v H2 k od => q v H2 (s.trans (Stp.ext k)) od⟩
theorem ev_callL {rel : List PyData → List PyData → Prop} (h : EvA m c t Γ (ds.map D)) (hr : rel ds es) : Ev m c (tCall (spL rel) [] Ex t) Γ (D (.list es)) := fun σ H E Q q =>
  h σ H E _ fun vs H1 s o => ⟨m.A, ds, es, by rw [List.append_nil]; exact o.data, (E.step (r := 0) s).trk, hr, fun p xs H2 k hn hp ha =>
    q (.ref p) H2 (s.trans (Stp.ext k)) (.lst hp ((E.step (r := 0) s).free hn) (ha.to fun a o h n => ⟨h, fun z => n (.inl z)⟩))⟩
/-- .. and will change -/
theorem go_callBox {i : Nat} {rel : List PyData → List PyData → Prop} (E : Env m k Γ σ H) (hs : m.Spend k c r) (h : EvA m c t Γ (ds.map D)) (hr : rel ds es)
    (cont : ∀ p σ' H', NoBox p Γ → ¬ m.A p → ¬ m.M p → Env (m.add p) r (Γ.set i (some (.box p (bL es)))) σ' H' → De.nx σ' H') : tAsg (tCall (spL rel) [] Ex t) (gName i) De σ H :=
  h σ H (E.lend hs) _ fun vs H1 s o => by
    have E1 := E.pay s hs
    refine ⟨m.A, ds, es, by rw [List.append_nil]; exact o.data, E1.trk, hr, fun p xs H2 kk hn hp ha => ?_⟩
    have hn' : ¬ m.A p := E1.free hn
    have hM : ¬ m.M p := E1.freeM hn
    have h0 : m.H0 p = none := E1.free0 hn
    have E2 : Env m r Γ σ H2 := E1.step (Stp.ext kk)
    -- the new address is kept off from here on
    have nb : NoBox p Γ := E1.noBox hn
    have tt : To m.A H1 (m.add p).A H2 := fun a o e n => ⟨kk a o e, fun z => z.elim n (ne_of_none e hn)⟩
    have E3 : Env (m.add p) r Γ σ H2 := by
      refine ⟨E2.inv, E2.fr, fun a ha => .inl (E2.sub a ha), fun a ha => ?_, fun x hx => x.2.mono tt (E1.ex x hx), E2.len, fun i g e => ?_⟩
      · rcases ha with ha | rfl
        · exact E2.trk a ha
        · rw [hp]; exact fun z => nomatch z
      · obtain ⟨v, h1, h2⟩ := E1.sl i g e
        refine ⟨v, h1, ?_⟩
        cases g with
        | im f => exact f.mono tt h2
        | box q b =>
          obtain ⟨e1, h3, h4, h5, u, h6, h7⟩ := h2
          exact ⟨e1, .inl h3, h4, h5, u, kk q u h6, b.mono tt h7⟩
    exact cont p _ _ nb hn' hM (E3.set ⟨rfl, .inr rfl, hM, h0, _, hp, xs, rfl, ha⟩)
/-- what a def that changes nothing hands back -/
theorem ret_D {A : Addr → Prop} {H0 : Hp} {Q : VK} (hm : m.H0 = H0) (hM : ∀ a, ¬ m.M a) (hA : ∀ a, A a → m.A a) (q : ∀ v H', (∀ a o, H0 a = some o → H' a = some o) → Dq A H' v d → Q v H') (E : Env m k Γ σ H') (o : (D d).on m H' v) : Q v H' := by
  subst hm
  exact q v H' (fun a u e => E.fr a u e (hM a)) (Dq.to (fun a u e n => ⟨e, fun z => n (hA a z)⟩) o)
end
end Lh

set_option Elab.async false
set_option linter.all false
set_option maxRecDepth 100000
set_option maxHeartbeats 2000000
/-! Rules over data with a Lean type, and what they evaluate to. -/
namespace Lh
open PySem PySem.Spec PyProof.Rows L2 PySem.W

theorem DpAll.of_get {K : Frag} {H : Hp} : ∀ {vs : List V} {ds : List PyData}, DqA (fun _ => False) H vs ds → DpAll K H vs ds
  | _, _, .nil => .nil
  | _, _, .cons h t => .cons (h.dp K) (DpAll.of_get t)
section
variable {X : Cx} {pins : List (Addr × Obj)} {σ : L2.St} {H : Hp} {s : Shared}
theorem holds_of {α : Type} [DecidableEq α] [Datum α] (I : Inv X pins σ H s) {v : V} {u : Value} {x : α} (h : Dp X.K H v (Datum.toD x)) (r : RelV v u) : Holds s.heap u x := Dp.reads I _ v u h r

/-- == and != of two values of one type -/
def rEqX (K : Frag) : R2 := fun x y H Q => ∃ (α : Type) (_ : DecidableEq α) (_ : Datum α) (a b : α), Dp K H x (Datum.toD a) ∧ Dp K H y (Datum.toD b) ∧ Datum.depth α ≤ 32 ∧ Q (.bl (decide (a = b))) H
def rNeX (K : Frag) : R2 := fun x y H Q => ∃ (α : Type) (_ : DecidableEq α) (_ : Datum α) (a b : α), Dp K H x (Datum.toD a) ∧ Dp K H y (Datum.toD b) ∧ Datum.depth α ≤ 32 ∧ Q (.bl (decide (a ≠ b))) H
theorem op_eqX (hu : X.A.units + 64 < cLine) : OpR X (compareOp .Eq) (rEqX X.K) := by
  rintro pins s σ H x y v u Q I rx ry ⟨α, _, _, a, b, ha, hb, hd, q⟩
  exact eq_datum (holds_of I ha rx) (holds_of I hb ry) (by omega) ⟨.bl _, H, I, rfl, q⟩
theorem op_neX (hu : X.A.units + 64 < cLine) : OpR X (compareOp .NotEq) (rNeX X.K) := by
  rintro pins s σ H x y v u Q I rx ry ⟨α, _, _, a, b, ha, hb, hd, q⟩
  exact ne_datum (holds_of I ha rx) (holds_of I hb ry) (by omega) ⟨.bl _, H, I, rfl, q⟩
/-- among them -/
def mem {α : Type} [DecidableEq α] (x : α) (xs : List α) : Bool := decide (x ∈ xs)
theorem mem_iff {α : Type} [DecidableEq α] {x : α} {xs : List α} : mem x xs = true ↔ x ∈ xs := by
  unfold mem
  exact decide_eq_true_iff
theorem mem_no {α : Type} [DecidableEq α] {x : α} {xs : List α} : mem x xs = false ↔ x ∉ xs := by
  unfold mem
  exact decide_eq_false_iff_not
def rInX (K : Frag) (neg : Bool) : R2 := fun x y H Q => ∃ (α : Type) (_ : DecidableEq α) (_ : Datum α) (a : α) (as : List α), Dp K H x (Datum.toD a) ∧ (Dp K H y (Datum.toD as) ∨ Dp K H y (Datum.toD (Tup.mk as))) ∧ Datum.depth α ≤ 32 ∧
  Q (.bl (if neg then !mem a as else mem a as)) H
theorem op_inX (hu : X.A.units + 64 < cLine) : OpR X (compareOp .In) (rInX X.K false) := by
  rintro pins s σ H x y v u Q I rx ry ⟨α, _, _, a, as, ha, hb, hd, q⟩
  have k := holds_of I ha rx
  rcases hb with hb | hb
  · obtain ⟨l, vs, rfl, hl, hs⟩ := list_of_holds (holds_of I hb ry)
    exact in_list_datum hl hs k (by omega) ⟨.bl _, H, I, rfl, q⟩
  · obtain ⟨l, vs, rfl, hl, hs⟩ := tup_of_holds (holds_of I hb ry)
    exact in_tuple_datum hl hs k (by omega) ⟨.bl _, H, I, rfl, q⟩
theorem op_notInX (hu : X.A.units + 64 < cLine) : OpR X (compareOp .NotIn) (rInX X.K true) := by
  rintro pins s σ H x y v u Q I rx ry ⟨α, _, _, a, as, ha, hb, hd, q⟩
  have k := holds_of I ha rx
  rcases hb with hb | hb
  · obtain ⟨l, vs, rfl, hl, hs⟩ := list_of_holds (holds_of I hb ry)
    exact notIn_list_datum hl hs k (by omega) ⟨.bl _, H, I, by show _ = _; unfold mem; rw [← decide_not]; rfl, q⟩
  · obtain ⟨l, vs, rfl, hl, hs⟩ := tup_of_holds (holds_of I hb ry)
    exact notIn_tuple_datum hl hs k (by omega) ⟨.bl _, H, I, by show _ = _; unfold mem; rw [← decide_not]; rfl, q⟩
/-- < <= > >= of two values of one ordered type -/
def rLtX (K : Frag) (f : Bool → Bool → Bool) : R2 := fun x y H Q => ∃ (α : Type) (_ : DecidableEq α) (_ : DatumOrd α) (a b : α), Dp K H x (Datum.toD a) ∧ Dp K H y (Datum.toD b) ∧ Datum.depth α ≤ 32 ∧ Q (.bl (f (DatumOrd.lt a b) (DatumOrd.lt b a))) H
theorem op_ltX (hu : X.A.units + 64 < cLine) : OpR X (compareOp .Lt) (rLtX X.K fun p _ => p) := by
  rintro pins s σ H x y v u Q I rx ry ⟨α, _, _, a, b, ha, hb, hd, q⟩
  exact lt_datum (holds_of I ha rx) (holds_of I hb ry) (by omega) ⟨.bl _, H, I, rfl, q⟩
theorem op_gtX (hu : X.A.units + 64 < cLine) : OpR X (compareOp .Gt) (rLtX X.K fun _ p => p) := by
  rintro pins s σ H x y v u Q I rx ry ⟨α, _, _, a, b, ha, hb, hd, q⟩
  exact gt_datum (holds_of I ha rx) (holds_of I hb ry) (by omega) ⟨.bl _, H, I, rfl, q⟩
theorem op_leX (hu : X.A.units + 64 < cLine) : OpR X (compareOp .LtE) (rLtX X.K fun _ p => !p) := by
  rintro pins s σ H x y v u Q I rx ry ⟨α, _, _, a, b, ha, hb, hd, q⟩
  exact le_datum (holds_of I ha rx) (holds_of I hb ry) (by omega) ⟨.bl _, H, I, rfl, q⟩
theorem op_geX (hu : X.A.units + 64 < cLine) : OpR X (compareOp .GtE) (rLtX X.K fun p _ => !p) := by
  rintro pins s σ H x y v u Q I rx ry ⟨α, _, _, a, b, ha, hb, hd, q⟩
  exact ge_datum (holds_of I ha rx) (holds_of I hb ry) (by omega) ⟨.bl _, H, I, rfl, q⟩

/-! sorted of a list of such -/
theorem each_of {α : Type} {G : V → α → Prop} : ∀ {zs : List V} {us : List Value} {xs : List α}, Vals zs us → Paired G zs xs → EachIs (fun u x => ∃ v, RelV v u ∧ G v x) us xs
  | _, _, _, .nil, .nil => .nil
  | _, _, _, .cons r t, .cons g k => .cons ⟨_, r, g⟩ (each_of t k)
theorem of_each {α : Type} {G : V → α → Prop} : ∀ {us : List Value} {xs : List α}, EachIs (fun u x => ∃ v, RelV v u ∧ G v x) us xs → ∃ zs, Vals zs us ∧ Paired G zs xs
  | _, _, .nil => ⟨[], .nil, .nil⟩
  | _, _, .cons ⟨v, r, g⟩ t => by
    obtain ⟨zs, h1, h2⟩ := of_each t
    exact ⟨v :: zs, .cons r h1, .cons g h2⟩
/-- Python's order -/
def leX {α : Type} [DecidableEq α] [DatumOrd α] (a b : α) : Bool := !DatumOrd.lt b a
theorem leX_data {α : Type} [DecidableEq α] [DatumOrd α] (a b : α) : dataLe false (Datum.toD (α := α)) a b = leX a b := by
  show (!(listOrd itemOrd).blt (keyToks (Datum.toD b)) (keyToks (Datum.toD a))) = !DatumOrd.lt b a
  rw [← DatumOrd.lt_eq]
  rfl
def SortOk {α : Type} [DecidableEq α] [Datum α] (xs : List α) : Prop := (∀ x ∈ xs, ∃ d r, Datum.toD x = PyData.tuple (d :: r)) ∨ ∀ x ∈ xs, ∀ r, Datum.toD x ≠ PyData.tuple r
def rSortX (K : Frag) : List V → Hp → VK → Prop := fun vs H Q => ∃ (α : Type) (_ : DecidableEq α) (_ : DatumOrd α) (a : Addr) (zs : List V) (xs : List α) (G : V → α → Prop), vs = [V.ref a] ∧ SqL K H a zs ∧ Paired G zs xs ∧ (∀ v x, G v x → Dp K H v (Datum.toD x)) ∧
  Datum.depth α ≤ 32 ∧ SortOk xs ∧ ∀ p ys, Paired G ys (xs.mergeSort leX) → H p = none → Q (.ref p) (upd H p (.lst ys))
theorem paired_len {α β : Type} {G : α → β → Prop} : ∀ {xs : List α} {ys : List β}, Paired G xs ys → xs.length = ys.length
  | _, _, .nil => rfl
  | _, _, .cons _ t => congrArg (· + 1) (paired_len t)
theorem cr_sortX (hu : X.A.units + 64 < cLine) : CallR X (.builtin "sorted") (rSortX X.K) := by
  rintro pins s σ H vs us Q I r ⟨α, _, _, a, zs, xs, G, rfl, hs, hp, hG, hd, hk, q⟩
  obtain ⟨its, rv, hl, hz⟩ := I.list hs
  obtain ⟨u, rfl, ru⟩ := vals1 r
  obtain rfl : u = Value.ref a := ru
  have e := each_of rv hp
  have hlen : zs.length = xs.length := paired_len hp
  refine sorted_data (enc := Datum.toD (α := α)) (bs := xs) hl.isList e (e.mono fun u x ⟨v, r, g⟩ => Dp.reads I _ v u (hG v x g) r) (fun d h d' h' => ?_) ?_ (by omega) (fun b _ => ?_) fun out ho he => ?_
  · obtain ⟨x, _, rfl⟩ := List.mem_map.mp h
    obtain ⟨y, _, rfl⟩ := List.mem_map.mp h'
    exact DatumOrd.alike x y
  · rcases hk with hk | hk
    · left
      intro d h
      obtain ⟨x, hx, rfl⟩ := List.mem_map.mp h
      exact hk x hx
    · right
      intro d h
      obtain ⟨x, hx, rfl⟩ := List.mem_map.mp h
      exact ⟨DatumOrd.notNone x, hk x hx⟩
  · have := Datum.depth_le b
    omega
  · have es : xs.mergeSort (dataLe false (Datum.toD (α := α))) = xs.mergeSort leX := by
      congr 1
      funext a b
      exact leX_data a b
    rw [es] at he
    obtain ⟨ys, h1, h2⟩ := of_each he
    obtain ⟨n, hn⟩ := sortedAll_at s.heap its out.toArray
    have hlt : s.heap.objs.size ≤ s.heap.objs.size + 1 := Nat.le_succ _
    exact ⟨.ref (s.heap.objs.size + 1), upd H (s.heap.objs.size + 1) (.lst ys), I.laid (o := .lst ys) (t' := s.toks) (fun b o e => sortedAll_old e) hlt ⟨by rw [paired_len h2, List.length_mergeSort]; omega, out, n, h1, hn⟩, rfl, q _ ys h2 (I.hok.fresh hlt)⟩
end

/-! ### what they evaluate to -/
/-- data of few levels (an instance a type that a proof speaks of) -/
class Small (α : Type) [DecidableEq α] [Datum α] : Prop where
  le : Datum.depth α ≤ 32
instance : Small Int := ⟨by decide⟩
instance : Small Bool := ⟨by decide⟩
instance : Small Str := ⟨by decide⟩
instance : Small Unit := ⟨by decide⟩
instance : Small (List Int) := ⟨by decide⟩
instance : Small (List Str) := ⟨by decide⟩
instance : Small (Int × Int) := ⟨by decide⟩
instance : Small (List (Int × Int)) := ⟨by decide⟩
instance : Small (Tup (Int × Int)) := ⟨by decide⟩
instance : Small (List (Tup (Int × Int))) := ⟨by decide⟩
instance : Small (Tup Str) := ⟨by decide⟩
instance : Small (Tup Int) := ⟨by decide⟩
abbrev J {α : Type} [DecidableEq α] [Datum α] (x : α) : Ag := D (Datum.toD x)
/-- such a value of the type -/
abbrev JP {α : Type} [DecidableEq α] [Datum α] (P : α → Prop) : Ag := U fun d => ∃ x, d = Datum.toD x ∧ P x
section
variable {m : Md} {ce ca cb : Nat} {Γ : Gam} {te ta tb : TE} {K : Frag} {α : Type} [DecidableEq α]
theorem ev_eqX [Datum α] [Small α] {x y : α} (ha : Ev m ca ta Γ (J x)) (hb : Ev m cb tb Γ (J y)) : Ev m (ca + cb) (tOp (rEqX K) ta tb) Γ (D (.bool (decide (x = y)))) :=
  ev_op ha hb fun σ H E u v o1 o2 Q q => ⟨α, _, _, x, y, Dq.dp K o1, Dq.dp K o2, Small.le, q _ H Stp.refl (.bl _)⟩
theorem ev_neX [Datum α] [Small α] {x y : α} (ha : Ev m ca ta Γ (J x)) (hb : Ev m cb tb Γ (J y)) : Ev m (ca + cb) (tOp (rNeX K) ta tb) Γ (D (.bool (decide (x ≠ y)))) :=
  ev_op ha hb fun σ H E u v o1 o2 Q q => ⟨α, _, _, x, y, Dq.dp K o1, Dq.dp K o2, Small.le, q _ H Stp.refl (.bl _)⟩
theorem ev_inT [Datum α] [Small α] {x : α} {xs : List α} (ha : Ev m ca ta Γ (J x)) (hb : Ev m cb tb Γ (J (Tup.mk xs))) : Ev m (ca + cb) (tOp (rInX K false) ta tb) Γ (D (.bool (mem x xs))) :=
  ev_op ha hb fun σ H E u v o1 o2 Q q => ⟨α, _, _, x, xs, Dq.dp K o1, .inr (Dq.dp K o2), Small.le, q _ H Stp.refl (.bl _)⟩
theorem not_mem {x : α} {xs : List α} : decide (x ∉ xs) = !mem x xs := by
  unfold mem
  exact decide_not
theorem ev_notInT [Datum α] [Small α] {x : α} {xs : List α} (ha : Ev m ca ta Γ (J x)) (hb : Ev m cb tb Γ (J (Tup.mk xs))) : Ev m (ca + cb) (tOp (rInX K true) ta tb) Γ (D (.bool (!mem x xs))) :=
  ev_op ha hb fun σ H E u v o1 o2 Q q => ⟨α, _, _, x, xs, Dq.dp K o1, .inr (Dq.dp K o2), Small.le, q _ H Stp.refl (.bl _)⟩
theorem ev_inL [Datum α] [Small α] {x : α} {xs : List α} (ha : Ev m ca ta Γ (J x)) (hb : Ev m cb tb Γ (J xs)) : Ev m (ca + cb) (tOp (rInX K false) ta tb) Γ (D (.bool (mem x xs))) :=
  ev_op ha hb fun σ H E u v o1 o2 Q q => ⟨α, _, _, x, xs, Dq.dp K o1, .inl (Dq.dp K o2), Small.le, q _ H Stp.refl (.bl _)⟩
theorem ev_notInL [Datum α] [Small α] {x : α} {xs : List α} (ha : Ev m ca ta Γ (J x)) (hb : Ev m cb tb Γ (J xs)) : Ev m (ca + cb) (tOp (rInX K true) ta tb) Γ (D (.bool (!mem x xs))) :=
  ev_op ha hb fun σ H E u v o1 o2 Q q => ⟨α, _, _, x, xs, Dq.dp K o1, .inl (Dq.dp K o2), Small.le, q _ H Stp.refl (.bl _)⟩
/-- a box of a list of the type -/
abbrev Bxl [Datum α] (p : Addr) (xs : List α) : Ag := .box p (bL (xs.map Datum.toD))
theorem box_dp [Datum α] {p : Addr} {xs : List α} {H : Hp} {v : V} (o : (Bxl p xs).on m H v) : ∃ zs, v = .ref p ∧ H p = some (.lst zs) ∧ DqA m.A H zs (xs.map Datum.toD) := by
  obtain ⟨rfl, _, _, _, o, ho, zs, rfl, hx⟩ := o
  exact ⟨zs, rfl, ho, hx⟩
theorem ev_inB [Datum α] [Small α] {p : Addr} {x : α} {xs : List α} (ha : Ev m ca ta Γ (J x)) (hb : Ev m cb tb Γ (Bxl p xs)) : Ev m (ca + cb) (tOp (rInX K false) ta tb) Γ (D (.bool (mem x xs))) :=
  ev_op ha hb fun σ H E u v o1 o2 Q q => by
    obtain ⟨zs, rfl, h1, h2⟩ := box_dp o2
    exact ⟨α, _, _, x, xs, Dq.dp K o1, .inl (.lst (.inl (.inl h1)) (h2.dp K)), Small.le, q _ H Stp.refl (.bl _)⟩
theorem ev_notInB [Datum α] [Small α] {p : Addr} {x : α} {xs : List α} (ha : Ev m ca ta Γ (J x)) (hb : Ev m cb tb Γ (Bxl p xs)) : Ev m (ca + cb) (tOp (rInX K true) ta tb) Γ (D (.bool (!mem x xs))) :=
  ev_op ha hb fun σ H E u v o1 o2 Q q => by
    obtain ⟨zs, rfl, h1, h2⟩ := box_dp o2
    exact ⟨α, _, _, x, xs, Dq.dp K o1, .inl (.lst (.inl (.inl h1)) (h2.dp K)), Small.le, q _ H Stp.refl (.bl _)⟩
theorem ev_ltX [DatumOrd α] [Small α] {f : Bool → Bool → Bool} {x y : α} (ha : Ev m ca ta Γ (J x)) (hb : Ev m cb tb Γ (J y)) : Ev m (ca + cb) (tOp (rLtX K f) ta tb) Γ (D (.bool (f (DatumOrd.lt x y) (DatumOrd.lt y x)))) :=
  ev_op ha hb fun σ H E u v o1 o2 Q q => ⟨α, _, _, x, y, Dq.dp K o1, Dq.dp K o2, Small.le, q _ H Stp.refl (.bl _)⟩
theorem DqA.paired [Datum α] {A : Addr → Prop} {H : Hp} : ∀ {zs : List V} {xs : List α}, DqA A H zs (xs.map Datum.toD) → Paired (fun v x => Dq A H v (Datum.toD x)) zs xs
  | _, [], .nil => .nil
  | _, _ :: _, .cons h t => .cons h (DqA.paired t)
theorem DqA.unpaired [Datum α] {A : Addr → Prop} {H : Hp} : ∀ {zs : List V} {xs : List α}, Paired (fun v x => Dq A H v (Datum.toD x)) zs xs → DqA A H zs (xs.map Datum.toD)
  | _, [], .nil => .nil
  | _, _ :: _, .cons h t => .cons h (DqA.unpaired t)
theorem ev_sortX [DatumOrd α] [Small α] {xs : List α} (ha : Ev m ca ta Γ (J xs)) (hk : SortOk xs) : Ev m ca (tCB (rSortX K) (tCons ta tNil)) Γ (J (xs.mergeSort leX)) := fun σ H E Q q =>
  ha σ H E.le _ fun v H1 s o => by
    have o' : Dq m.A H1 v (.list (xs.map Datum.toD)) := o
    cases o' with
    | lst h1 h2 h3 =>
      exact ⟨α, _, _, _, _, xs, fun v x => Dq m.A H1 v (Datum.toD x), rfl, .inl (.inl h1), h3.paired, fun v x g => g.dp K, Small.le, hk, fun p ys hy hp =>
        q _ _ (s.trans (Stp.new hp)).le (Dq.newL ((E.step (r := 0) s).free hp) hp (DqA.unpaired hy))⟩
theorem ev_sortB [DatumOrd α] [Small α] {p : Addr} {xs : List α} (ha : Ev m ca ta Γ (Bxl p xs)) (hk : SortOk xs) : Ev m ca (tCB (rSortX K) (tCons ta tNil)) Γ (J (xs.mergeSort leX)) := fun σ H E Q q =>
  ha σ H E.le _ fun v H1 s o => by
    obtain ⟨zs, rfl, h1, h3⟩ := box_dp o
    exact ⟨α, _, _, _, _, xs, fun v x => Dq m.A H1 v (Datum.toD x), rfl, .inl (.inl h1), h3.paired, fun v x g => g.dp K, Small.le, hk, fun p ys hy hp =>
        q _ _ (s.trans (Stp.new hp)).le (Dq.newL ((E.step (r := 0) s).free hp) hp (DqA.unpaired hy))⟩
/-! len, list(..), tuple(..) -/
def rLen (K : Frag) : List V → Hp → VK → Prop := fun xs H Q => ∃ p ys, xs = [.ref p] ∧ (SqL K H p ys ∨ SqT K H p ys) ∧ Q (.int ys.length) H
end
end Lh

set_option Elab.async false
set_option linter.all false
set_option maxRecDepth 100000
set_option maxHeartbeats 2000000
namespace Lh
open PySem PySem.Spec PyProof.Rows L2 PySem.W

section
variable {m : Md} {ce ca cb ci cl : Nat} {Γ : Gam} {te ta tb ti : TE} {t : TA} {K : Frag} {α : Type} [DecidableEq α] {d : PyData} {ds : List PyData} {p : Addr}
theorem Dq.list {A : Addr → Prop} {H : Hp} {v : V} (h : Dq A H v (.list ds)) : ∃ a xs, v = .ref a ∧ H a = some (.lst xs) ∧ ¬ A a ∧ DqA A H xs ds := by
  cases h with
  | lst h1 h2 h3 => exact ⟨_, _, rfl, h1, h2, h3⟩
theorem Dq.tuple {A : Addr → Prop} {H : Hp} {v : V} (h : Dq A H v (.tuple ds)) : ∃ a xs, v = .ref a ∧ H a = some (.tup xs) ∧ ¬ A a ∧ DqA A H xs ds := by
  cases h with
  | tup h1 h2 h3 => exact ⟨_, _, rfl, h1, h2, h3⟩
theorem Dq.is_int {A : Addr → Prop} {H : Hp} {v : V} {i : Int} (h : Dq A H v (.int i)) : v = .int i := by cases h; rfl
theorem Dq.is_str {A : Addr → Prop} {H : Hp} {v : V} {x : Str} (h : Dq A H v (.str x)) : v = .str x := by cases h; rfl
theorem Dq.is_bl {A : Addr → Prop} {H : Hp} {v : V} {b : Bool} (h : Dq A H v (.bool b)) : v = .bl b := by cases h; rfl

abbrev rLenS (K : Frag) : List V → Hp → VK → Prop := fun xs H Q => ∃ p ys, xs = [.ref p] ∧ (SqL K H p ys ∨ SqT K H p ys) ∧ Q (.int ys.length) H
theorem ev_lenL (h : Ev m ce te Γ (D (.list ds))) : Ev m ce (tCB (rLenS K) (tCons te tNil)) Γ (D (.int (ds.length : Nat))) := fun σ H E Q q => h σ H E.le _ fun v H1 s o => by
  obtain ⟨a, xs, rfl, h1, h2, h3⟩ := Dq.list o
  exact ⟨a, xs, rfl, .inl (.inl (.inl h1)), q _ _ s (by rw [← h3.length]; exact .int _)⟩
theorem ev_lenT (h : Ev m ce te Γ (D (.tuple ds))) : Ev m ce (tCB (rLenS K) (tCons te tNil)) Γ (D (.int (ds.length : Nat))) := fun σ H E Q q => h σ H E.le _ fun v H1 s o => by
  obtain ⟨a, xs, rfl, h1, h2, h3⟩ := Dq.tuple o
  exact ⟨a, xs, rfl, .inr (.inl (.inl h1)), q _ _ s (by rw [← h3.length]; exact .int _)⟩
theorem ev_lenB (h : Ev m ce te Γ (.box p (bL ds))) : Ev m ce (tCB (rLenS K) (tCons te tNil)) Γ (D (.int (ds.length : Nat))) := fun σ H E Q q => h σ H E.le _ fun v H1 s o => by
  obtain ⟨rfl, _, _, _, o, ho, zs, rfl, hx⟩ := o
  exact ⟨p, zs, rfl, .inl (.inl (.inl ho)), q _ _ s (by rw [← hx.length]; exact .int _)⟩
theorem ev_lenS {z : Str} (h : Ev m ce te Γ (D (.str z))) (hz : z.length ≤ sizeLine) : Ev m ce (tCB (fun xs H Q => ∃ z, xs = [.str z] ∧ z.length ≤ sizeLine ∧ Q (.int z.length) H) (tCons te tNil)) Γ (D (.int (z.length : Nat))) := fun σ H E Q q => h σ H E.le _ fun v H1 s o => by
  cases Dq.is_str o
  exact ⟨z, rfl, hz, q _ _ s (.int _)⟩
/-- the typed forms -/
theorem ev_lenJL [Datum α] {xs : List α} (h : Ev m ce te Γ (J xs)) : Ev m ce (tCB (rLenS K) (tCons te tNil)) Γ (J (xs.length : Int)) := (ev_lenL h).eq (by rw [List.length_map]; rfl)
theorem ev_lenJT [Datum α] {xs : List α} (h : Ev m ce te Γ (J (Tup.mk xs))) : Ev m ce (tCB (rLenS K) (tCons te tNil)) Γ (J (xs.length : Int)) := (ev_lenT h).eq (by rw [List.length_map]; rfl)
theorem ev_lenJB [Datum α] {xs : List α} (h : Ev m ce te Γ (Bxl p xs)) : Ev m ce (tCB (rLenS K) (tCons te tNil)) Γ (J (xs.length : Int)) := (ev_lenB h).eq (by rw [List.length_map]; rfl)

abbrev rListS (K : Frag) : List V → Hp → VK → Prop := fun xs H Q => ∃ p ys, xs = [.ref p] ∧ (SqL K H p ys ∨ SqT K H p ys) ∧ ∀ l, H l = none → Q (.ref l) (upd H l (.lst ys))
theorem ev_listL (h : Ev m ce te Γ (D (.list ds))) : Ev m ce (tCB (rListS K) (tCons te tNil)) Γ (D (.list ds)) := fun σ H E Q q => h σ H E.le _ fun v H1 s o => by
  obtain ⟨a, xs, rfl, h1, h2, h3⟩ := Dq.list o
  exact ⟨a, xs, rfl, .inl (.inl (.inl h1)), fun l hl => q _ _ (s.trans (Stp.new hl)).le (Dq.newL ((E.step (r := 0) s).free hl) hl h3)⟩
theorem ev_listT (h : Ev m ce te Γ (D (.tuple ds))) : Ev m ce (tCB (rListS K) (tCons te tNil)) Γ (D (.list ds)) := fun σ H E Q q => h σ H E.le _ fun v H1 s o => by
  obtain ⟨a, xs, rfl, h1, h2, h3⟩ := Dq.tuple o
  exact ⟨a, xs, rfl, .inr (.inl (.inl h1)), fun l hl => q _ _ (s.trans (Stp.new hl)).le (Dq.newL ((E.step (r := 0) s).free hl) hl h3)⟩
abbrev rTupS (K : Frag) : List V → Hp → VK → Prop := fun xs H Q => ∃ p ys, xs = [.ref p] ∧ ((SqL K H p ys ∧ ∀ l, H l = none → Q (.ref l) (upd H l (.tup ys))) ∨ (SqT K H p ys ∧ Q (.ref p) H))
theorem ev_tupL (h : Ev m ce te Γ (D (.list ds))) : Ev m ce (tCB (rTupS K) (tCons te tNil)) Γ (D (.tuple ds)) := fun σ H E Q q => h σ H E.le _ fun v H1 s o => by
  obtain ⟨a, xs, rfl, h1, h2, h3⟩ := Dq.list o
  exact ⟨a, xs, rfl, .inl ⟨.inl (.inl h1), fun l hl => q _ _ (s.trans (Stp.new hl)).le (Dq.newT ((E.step (r := 0) s).free hl) hl h3)⟩⟩
theorem ev_tupT (h : Ev m ce te Γ (D (.tuple ds))) : Ev m ce (tCB (rTupS K) (tCons te tNil)) Γ (D (.tuple ds)) := fun σ H E Q q => h σ H E.le _ fun v H1 s o => by
  have o' : Dq m.A H1 v (.tuple ds) := o
  obtain ⟨a, xs, rfl, h1, h2, h3⟩ := Dq.tuple o
  exact ⟨a, xs, rfl, .inr ⟨.inl (.inl h1), q _ _ s o'⟩⟩
theorem ev_listJT [Datum α] {xs : List α} (h : Ev m ce te Γ (J (Tup.mk xs))) : Ev m ce (tCB (rListS K) (tCons te tNil)) Γ (J xs) := ev_listT h
theorem ev_listJL [Datum α] {xs : List α} (h : Ev m ce te Γ (J xs)) : Ev m ce (tCB (rListS K) (tCons te tNil)) Γ (J xs) := ev_listL h
theorem ev_tupJL [Datum α] {xs : List α} (h : Ev m ce te Γ (J xs)) : Ev m ce (tCB (rTupS K) (tCons te tNil)) Γ (J (Tup.mk xs)) := ev_tupL h
theorem ev_tupJT [Datum α] {xs : List α} (h : Ev m ce te Γ (J (Tup.mk xs))) : Ev m ce (tCB (rTupS K) (tCons te tNil)) Γ (J (Tup.mk xs)) := ev_tupT h

/-! subscripts -/
theorem ev_ixL {i : Int} {e : PyData} (h : Ev m ce te Γ (D (.list ds))) (hi : Ev m ci ti Γ (D (.int i))) (ha : atI ds i = some e) : Ev m (ce + ci) (tOp (rIxL K) te ti) Γ (D e) :=
  ev_op h hi fun σ H E x y o1 o2 Q q => by
    obtain ⟨a, xs, rfl, h1, h2, h3⟩ := Dq.list o1
    cases Dq.is_int o2
    unfold atI at ha
    cases ej : ixN ds.length i with
    | none => rw [ej] at ha; cases ha
    | some j =>
      rw [ej] at ha
      obtain ⟨v, ev, hv⟩ := h3.get (show ds[j]? = some e from ha)
      exact ⟨a, xs, i, v, rfl, rfl, .inl (.inl h1), by unfold atI; rw [h3.length, ej]; exact ev, q v H Stp.refl hv⟩
theorem ev_ixT {i : Int} {e : PyData} (h : Ev m ce te Γ (D (.tuple ds))) (hi : Ev m ci ti Γ (D (.int i))) (ha : atI ds i = some e) : Ev m (ce + ci) (tOp (rIxT K) te ti) Γ (D e) :=
  ev_op h hi fun σ H E x y o1 o2 Q q => by
    obtain ⟨a, xs, rfl, h1, h2, h3⟩ := Dq.tuple o1
    cases Dq.is_int o2
    unfold atI at ha
    cases ej : ixN ds.length i with
    | none => rw [ej] at ha; cases ha
    | some j =>
      rw [ej] at ha
      obtain ⟨v, ev, hv⟩ := h3.get (show ds[j]? = some e from ha)
      exact ⟨a, xs, i, v, rfl, rfl, .inl (.inl h1), by unfold atI; rw [h3.length, ej]; exact ev, q v H Stp.refl hv⟩
theorem atI_map {β γ : Type} (f : β → γ) (xs : List β) (i : Int) : atI (xs.map f) i = (atI xs i).map f := by
  unfold atI
  rw [List.length_map]
  cases ixN xs.length i with
  | none => rfl
  | some j =>
    show (xs.map f)[j]? = (xs[j]?).map f
    rw [List.getElem?_map]
theorem ev_ixJL [Datum α] {xs : List α} {i : Int} {x : α} (h : Ev m ce te Γ (J xs)) (hi : Ev m ci ti Γ (J i)) (ha : atI xs i = some x) : Ev m (ce + ci) (tOp (rIxL K) te ti) Γ (J x) := ev_ixL h hi (by rw [atI_map, ha]; rfl)
theorem ev_ixJT [Datum α] {xs : List α} {i : Int} {x : α} (h : Ev m ce te Γ (J (Tup.mk xs))) (hi : Ev m ci ti Γ (J i)) (ha : atI xs i = some x) : Ev m (ce + ci) (tOp (rIxT K) te ti) Γ (J x) := ev_ixT h hi (by rw [atI_map, ha]; rfl)
/-- an item of a list or a tuple at a place that is only known to lie in it -/
theorem atI_in {β : Type} {xs : List β} {i : Int} (h0 : 0 ≤ i) (h1 : i < xs.length) : ∃ x, x ∈ xs ∧ atI xs i = some x := by
  obtain ⟨n, rfl⟩ := Int.eq_ofNat_of_zero_le h0
  have hn : n < xs.length := by omega
  exact ⟨xs[n], List.getElem_mem hn, atI_nat (List.getElem?_eq_getElem hn)⟩
/-- a display with stars -/
theorem eva_star {gs : List Ag} (h : Ev m ce te Γ (D (.tuple ds))) (hr : EvA m cl t Γ gs) : EvA m (ce + cl) (StX.tStar K te t) Γ (ds.map D ++ gs) := fun σ H E Q q => h σ H E.le _ fun v H1 s o => by
  obtain ⟨a, xs, rfl, h1, h2, h3⟩ := Dq.tuple o
  refine ⟨a, xs, rfl, .inl (.inl (.inl h1)), hr σ H1 (E.step s) _ fun ys H2 s2 o2 => q _ _ (s.trans s2).le ?_⟩
  have h4 := h3.to (s2.to E.sub)
  have : ∀ {xs : List V} {ds : List PyData}, DqA m.A H2 xs ds → OnAll m H2 (xs ++ ys) (ds.map D ++ gs) := by
    intro xs
    induction xs with
    | nil =>
      intro ds h
      cases h
      exact o2
    | cons x xs ih =>
      intro ds h
      cases h with
      | cons a b => exact .cons a (ih b)
  exact this h4
/-- + of two lists -/
theorem ev_catL {es : List PyData} (h : Ev m ca ta Γ (D (.list ds))) (h' : Ev m cb tb Γ (D (.list es))) (hz : ds.length + es.length ≤ sizeLine) : Ev m (ca + cb) (tOp rCat ta tb) Γ (D (.list (ds ++ es))) :=
  ev_op h h' fun σ H E x y o1 o2 Q q => by
    obtain ⟨a, xs, rfl, h1, h2, h3⟩ := Dq.list o1
    obtain ⟨b, ys, rfl, k1, k2, k3⟩ := Dq.list o2
    exact ⟨a, b, xs, ys, rfl, rfl, h1, k1, by rw [h3.length, k3.length]; exact hz, fun p hp => q _ _ (Stp.new hp) (Dq.newL (E.free hp) hp (h3.append k3))⟩
theorem ev_catJ [Datum α] {xs ys : List α} (h : Ev m ca ta Γ (J xs)) (h' : Ev m cb tb Γ (J ys)) (hz : xs.length + ys.length ≤ sizeLine) : Ev m (ca + cb) (tOp rCat ta tb) Γ (J (xs ++ ys)) := (ev_catL h h' (by rw [List.length_map, List.length_map]; exact hz)).eq (by rw [← List.map_append]; rfl)
end
end Lh

set_option Elab.async false
set_option linter.all false
set_option maxRecDepth 100000
set_option maxHeartbeats 2000000
/-! The rules that speak of the written part, with it named (so that they may stand within a comprehension). -/
namespace Lh
open PySem PySem.Spec PyProof.Rows L2 PySem.W
section
variable {X : Cx} {K : Frag} {α β : Type} [DecidableEq α] [DecidableEq β]
theorem k_eq (K : Frag) (hu : X.A.units + 64 < cLine) (hK : X.K = K := by rfl) : OpR X (compareOp .Eq) (rEqX K) := hK ▸ op_eqX hu
theorem k_ne (K : Frag) (hu : X.A.units + 64 < cLine) (hK : X.K = K := by rfl) : OpR X (compareOp .NotEq) (rNeX K) := hK ▸ op_neX hu
theorem k_in (K : Frag) (hu : X.A.units + 64 < cLine) (hK : X.K = K := by rfl) : OpR X (compareOp .In) (rInX K false) := hK ▸ op_inX hu
theorem k_notIn (K : Frag) (hu : X.A.units + 64 < cLine) (hK : X.K = K := by rfl) : OpR X (compareOp .NotIn) (rInX K true) := hK ▸ op_notInX hu
theorem k_lt (K : Frag) (hu : X.A.units + 64 < cLine) (hK : X.K = K := by rfl) : OpR X (compareOp .Lt) (rLtX K fun p _ => p) := hK ▸ op_ltX hu
theorem k_gt (K : Frag) (hu : X.A.units + 64 < cLine) (hK : X.K = K := by rfl) : OpR X (compareOp .Gt) (rLtX K fun _ p => p) := hK ▸ op_gtX hu
theorem k_le (K : Frag) (hu : X.A.units + 64 < cLine) (hK : X.K = K := by rfl) : OpR X (compareOp .LtE) (rLtX K fun _ p => !p) := hK ▸ op_leX hu
theorem k_ge (K : Frag) (hu : X.A.units + 64 < cLine) (hK : X.K = K := by rfl) : OpR X (compareOp .GtE) (rLtX K fun p _ => !p) := hK ▸ op_geX hu
theorem k_sorted (K : Frag) (hu : X.A.units + 64 < cLine) (hK : X.K = K := by rfl) : CallR X (.builtin "sorted") (rSortX K) := hK ▸ cr_sortX hu
theorem k_len (K : Frag) (hK : X.K = K := by rfl) : CallR X (.builtin "len") (rLenS K) := hK ▸ call_len_seq
theorem k_list (K : Frag) (hK : X.K = K := by rfl) : CallR X (.type "list") (rListS K) := hK ▸ call_list_of
theorem k_tuple (K : Frag) (hK : X.K = K := by rfl) : CallR X (.type "tuple") (rTupS K) := hK ▸ call_tuple_of
theorem k_ixL (K : Frag) (hK : X.K = K := by rfl) : IxR X (rIxL K) := hK ▸ ix_list
theorem k_ixT (K : Frag) (hK : X.K = K := by rfl) : IxR X (rIxT K) := hK ▸ ix_tup
theorem k_ix (K : Frag) (hK : X.K = K := by rfl) : IxR X (rIx K) := hK ▸ ix_seq
theorem k_slL (K : Frag) (hK : X.K = K := by rfl) : SlR X (rSlL K) := hK ▸ sl_list
theorem k_slT (K : Frag) (hK : X.K = K := by rfl) : SlR X (rSlT K) := hK ▸ sl_tup
theorem k_forL (K : Frag) {e tg : Expr} {te : TE} (h : PE X e te) (hK : X.K = K := by rfl) : PI X tg e (iList K te) := hK ▸ pi_list h
theorem k_forT (K : Frag) {e tg : Expr} {te : TE} (h : PE X e te) (hK : X.K = K := by rfl) : PI X tg e (iTup K te) := hK ▸ pi_tup h
theorem k_tg (K : Frag) {es : List Expr} {k n : Nat} {t : TGs} {pos : Pos} (hc : X.calm = true) (h : PGs X es t) (hn : (assignEach es X.env).length = n := by rfl) (hst : (assignEach es X.env).findIdx? (·.1) = none := by rfl) (hK : X.K = K := by rfl) :
    PG X (.Tuple es k pos) (gTup K n t) := hK ▸ pg_tup hc h hn hst
theorem k_star (K : Frag) {e : Expr} {es : List Expr} {p : Pos} {te : TE} {t : TA} (he : PE X e te) (hr : PA X es t) (hs : starEach (.Starred e p :: es) X.env = (true, eval e X.env) :: starEach es X.env := by rfl) (hK : X.K = K := by rfl) :
    PA X (.Starred e p :: es) (StX.tStar K te t) := hK ▸ StX.pa_star he hr hs
theorem k_bm0 (K : Frag) {T id : String} {name : Str} {r : V → List V → Hp → VK → Prop} {o : Expr} {to : TE} {apos cpos : Pos} (pa : PlainAttrs T) (slot : Slot T name id) (hty : typeOf (.builtin id) = pure (.type "method_descriptor")) (hm : MtR X id r) (ho : PE X o to)
    (hb : attributeBase o name X.env (eval o X.env) = eval o X.env := by rfl) (hl : (apos.endLine == cpos.line) = true := by rfl) (hK : X.K = K := by rfl) : PE X (.Call (.Attribute o name apos) [] [] cpos) (tBM0 K T r to) := hK ▸ pe_bm0 pa slot hty hm ho hb hl
theorem k_bm (K : Frag) {T id : String} {name : Str} {r : V → List V → Hp → VK → Prop} {o e : Expr} {es : List Expr} {to : TE} {t : TA} {apos cpos : Pos} (pa : PlainAttrs T) (slot : Slot T name id) (hty : typeOf (.builtin id) = pure (.type "method_descriptor")) (hm : MtR X id r) (ho : PE X o to) (ha : PA X (e :: es) t)
    (h1 : attributeBase o name X.env (eval o X.env) = eval o X.env := by rfl)
    (h2 : ((backTo cpos (starEach (e :: es) X.env)).all (fun x => !x.1) && (backToKw cpos (keywordEach [] X.env)).all (fun x => x.1.isSome) && decide ((e :: es).length + ([] : List Keyword).length + (if ([] : List Keyword).isEmpty then 0 else 1) < 30)) = true := by rfl)
    (h3 : (apos.endLine == cpos.line) = true := by rfl) (h4 : starEach (e :: es) X.env = (false, eval e X.env) :: starEach es X.env := by rfl) (h5 : (backTo cpos (starEach es X.env)).any (·.1) = false := by rfl) (hK : X.K = K := by rfl) :
    PE X (.Call (.Attribute o name apos) (e :: es) [] cpos) (tBM K T r to t) := hK ▸ pe_bm pa slot hty hm ho ha h1 h2 h3 h4 h5
end
section
variable {m : Md} {cw ct ce : Nat} {Γ : Gam} {te ta tb ti : TE} {tt : TT} {wi : TI} {K : Frag} {α β : Type} [DecidableEq α] [DecidableEq β]
theorem ev_lcJ [Datum α] [Datum β] {vs : List Nat} {j : Nat} {xs : List α} (c : α → Bool) (f : α → β) (hI : EvI m cw wi Γ ((xs.map Datum.toD).map isD)) (hz : xs.length ≤ sizeLine) (hj : j ∈ vs)
    (hs : ∀ Dp x, x ∈ xs → EvT (m.add Dp) ct tt ((wipeG Γ vs).set j (some (J x))) (· = c x) ∧ (c x = true → Ev (m.add Dp) ce te ((wipeG Γ vs).set j (some (J x))) (J (f x)))) :
    Ev m (cw + xs.length * (ct + ce)) (tLc wi (gName j) tt te vs) Γ (J ((xs.filter c).map f)) := by
  have hh : Ev m (cw + ((xs.map Datum.toD).map isD).length * (ct + ce)) (tLc wi (gName j) tt te vs) Γ (J ((xs.filter c).map f)) := ?_
  · rw [List.length_map, List.length_map] at hh
    exact hh
  refine (ev_lc hI (by rw [List.length_map, List.length_map]; exact hz) (fun i es => es = (((xs.take i).filter c).map f).map Datum.toD) rfl ?_).imp ?_
  · intro Dp i g es hg hr
    rw [List.getElem?_map, List.getElem?_map] at hg
    cases e : xs[i]? with
    | none => rw [e] at hg; cases hg
    | some d =>
      rw [e] at hg
      cases hg
      obtain ⟨h1, h2⟩ := hs Dp d (List.mem_of_getElem? e)
      have et : xs.take (i + 1) = xs.take i ++ [d] := by rw [List.take_add_one, e]; rfl
      refine ⟨_, _, tg_name, fun i hi => by rw [List.mem_singleton.mp hi]; exact hj, _, h1, fun p => ⟨_, (h2 p.symm).toP (P := (· = Datum.toD (f d))) rfl, fun e' q => ?_⟩, fun p => ?_⟩
      · show es ++ [e'] = _
        rw [q, hr, et, List.filter_append, List.map_append, List.map_append]
        congr 1
        rw [List.filter_cons_of_pos (by rw [← p])]
        rfl
      · show es = _
        rw [hr, et, List.filter_append, List.map_append, List.map_append]
        rw [List.filter_cons_of_neg (by rw [← p]; exact Bool.false_ne_true)]
        exact (List.append_nil _).symm
  · intro H v ⟨d, o, es, e1, e2, _⟩
    rw [List.length_map, List.length_map, List.take_length] at e2
    subst e2
    subst e1
    exact o
end
end Lh
namespace Lh
open PySem PySem.Spec PyProof.Rows L2 PySem.W
section
variable {m : Md} {k r c ce ca cb ci cl : Nat} {Γ : Gam} {σ : L2.St} {H : Hp} {te ta tb ti : TE} {t : TA} {K : Frag} {α β : Type} [DecidableEq α] [DecidableEq β] {d : PyData} {ds : List PyData} {p : Addr} {Q : VK}
/-- arguments that are data -/
def EvDs (m : Md) (c : Nat) (t : TA) (Γ : Gam) (ds : List PyData) : Prop := EvA m c t Γ (ds.map D)
theorem evd_nil : EvDs m 0 tNil Γ [] := eva_nil
theorem evd_cons (h : Ev m ce te Γ (D d)) (k : EvDs m cl t Γ ds) : EvDs m (ce + cl) (tCons te t) Γ (d :: ds) := eva_cons h k
theorem evd_star {es : List PyData} (h : Ev m ce te Γ (D (.tuple ds))) (hr : EvDs m cl t Γ es) : EvDs m (ce + cl) (StX.tStar K te t) Γ (ds ++ es) := by
  have := eva_star (K := K) h hr
  rw [← List.map_append] at this
  exact this
theorem ev_tup' (h : EvDs m cl t Γ ds) (hl : ds.length ≤ sizeLine) : Ev m cl (tTup t) Γ (D (.tuple ds)) := ev_tup h hl
theorem ev_lst' (h : EvDs m cl t Γ ds) (hl : ds.length ≤ sizeLine) : Ev m cl (tLst t) Γ (D (.list ds)) := ev_lst h hl
theorem ev_call' {rel : List PyData → PyData → Prop} {Ex : XK} (h : EvDs m cl t Γ ds) (hr : rel ds d) : Ev m cl (tCall (spD rel) [] Ex t) Γ (D d) := ev_call h hr
theorem ev_callL' {rel : List PyData → List PyData → Prop} {Ex : XK} {es : List PyData} (h : EvDs m cl t Γ ds) (hr : rel ds es) : Ev m cl (tCall (spL rel) [] Ex t) Γ (D (.list es)) := ev_callL h hr
/-- the last of a box taken -/
theorem go_pop {i : Nat} (E : Env m k Γ σ H) (hi : Γ[i]? = some (some (.box p (bL (ds ++ [d]))))) (hb : NoBox p (Γ.set i none))
    (cont : ∀ v H', Env m k (Γ.set i (some (.box p (bL ds)))) σ H' → Dq m.A H' v d → Q v H') : tBM0 K "list" rPop (tVar i) σ H Q := by
  obtain ⟨v, h1, rfl, h3, h4, h5, o, h6, xs, rfl, h7⟩ := E.sl i _ hi
  have hl := h7.length
  rw [List.length_append] at hl
  have hne : xs.length - 1 = ds.length := by
    have : ([d] : List PyData).length = 1 := rfl
    omega
  obtain ⟨y, ey, hy⟩ := h7.get (i := ds.length) (d := d) (by rw [List.getElem?_append_right (Nat.le_refl _), Nat.sub_self]; rfl)
  have hd : DqA m.A H xs.dropLast ds := by
    have := h7.take ds.length
    rw [List.take_left] at this
    rw [List.dropLast_eq_take, hne]
    exact this
  have E2 := E.rebox (b' := bL ds) (o := .lst xs.dropLast) hi hb ⟨_, rfl, hd⟩
  refine ⟨_, h1, .inl ⟨rfl, _, .inl (.inl h6)⟩, p, xs, y, rfl, rfl, h6, by rw [hne]; exact ey, cont y _ E2 (hy.to fun a o e n => ⟨by rw [upd_ne (fun z : a = p => n (z ▸ h3))]; exact e, n⟩)⟩
theorem go_appendD {i : Nat} {De : Ends} (E : Env m k Γ σ H) (hs : m.Spend k c r) (hi : Γ[i]? = some (some (.box p (bL ds)))) (h : Ev m c te Γ (D d)) (hz : ds.length < sizeLine) (hb : NoBox p (Γ.set i none))
    (cont : ∀ H', Env m r (Γ.set i (some (.box p (bL (ds ++ [d]))))) σ H' → De.nx σ H') : tDrop (tBM K "list" rAppend (tVar i) (tCons te tNil)) De σ H :=
  go_append E hs hi (h.toP (P := (· = d)) rfl) hz hb fun d' H' e E' => by
    subst e
    exact cont H' E'
/-- no box among these slots -/
theorem NoBox.nil : NoBox p [] := fun i q b e => by cases e
theorem NoBox.cons {o : Option Ag} (ho : ∀ q b, o = some (.box q b) → q ≠ p) (h : NoBox p Γ) : NoBox p (o :: Γ) := fun i q b e => by
  cases i with
  | zero => exact ho q b (Option.some.inj e)
  | succ i => exact h i q b e
theorem NoBox.none (h : NoBox p Γ) : NoBox p (none :: Γ) := .cons (fun _ _ e => nomatch e) h
theorem NoBox.im {f : Im} (h : NoBox p Γ) : NoBox p (some (.im f) :: Γ) := .cons (fun _ _ e => nomatch e) h
theorem NoBox.box {q : Addr} {b : Bx} (hq : q ≠ p) (h : NoBox p Γ) : NoBox p (some (.box q b) :: Γ) := .cons (fun _ _ e => by cases e; exact hq) h
end
end Lh
namespace Lh
open L2
theorem seq {t u : TS} {De : Ends} {σ : L2.St} {H : Hp} (h : t { De with nx := u De } σ H) : tSeq t u De σ H := h
theorem nxs {t u : TS} {De : Ends} {a b c} {σ : L2.St} {H : Hp} (h : t { De with nx := u De } σ H) : Ends.nx ⟨tSeq t u De, a, b, c⟩ σ H := h
theorem nx1 {t : TS} {De : Ends} {a b c} {σ : L2.St} {H : Hp} (h : t De σ H) : Ends.nx ⟨t De, a, b, c⟩ σ H := h
theorem nx0 {f : L2.St → Hp → Prop} {a b c} {σ : L2.St} {H : Hp} (h : f σ H) : Ends.nx ⟨f, a, b, c⟩ σ H := h
end Lh
namespace Lh
open PySem PySem.Spec PyProof.Rows L2 PySem.W
section
variable {m : Md} {k r c ce ca cb ci cl : Nat} {Γ : Gam} {σ : L2.St} {H : Hp} {te : TE} {K : Frag} {α : Type} [DecidableEq α] {p : Addr} {Q : VK} {De : Ends}
theorem go_popX [Datum α] {xs : List α} {x : α} {i : Nat} (E : Env m k Γ σ H) (hi : Γ[i]? = some (some (Bxl p (xs ++ [x])))) (hb : NoBox p (Γ.set i none))
    (cont : ∀ v H', Env m k (Γ.set i (some (Bxl p xs))) σ H' → Dq m.A H' v (Datum.toD x) → Q v H') : tBM0 K "list" rPop (tVar i) σ H Q :=
  go_pop (ds := xs.map Datum.toD) (d := Datum.toD x) E (by rw [hi]; show some (some (Ag.box _ (bL _))) = _; rw [List.map_append]; rfl) hb cont
theorem go_appendX [Datum α] {xs : List α} {x : α} {i : Nat} (E : Env m k Γ σ H) (hs : m.Spend k c r) (hi : Γ[i]? = some (some (Bxl p xs))) (h : Ev m c te Γ (J x)) (hz : xs.length < sizeLine) (hb : NoBox p (Γ.set i none))
    (cont : ∀ H', Env m r (Γ.set i (some (Bxl p (xs ++ [x])))) σ H' → De.nx σ H') : tDrop (tBM K "list" rAppend (tVar i) (tCons te tNil)) De σ H :=
  go_appendD (ds := xs.map Datum.toD) E hs hi h (by rw [List.length_map]; exact hz) hb fun H' E' => cont H' (by
    rw [show (Bxl p (xs ++ [x]) : Ag) = .box p (bL (xs.map Datum.toD ++ [Datum.toD x])) by show Ag.box _ _ = _; rw [List.map_append]; rfl]
    exact E')
theorem lt_line {n : Nat} (h : n ≤ 100000) : n < sizeLine := Nat.lt_of_le_of_lt h (by decide)
theorem le_line {n : Nat} (h : n ≤ 100000) : n ≤ sizeLine := Nat.le_of_lt (lt_line h)
end
end Lh

set_option Elab.async false
set_option linter.all false
set_option maxRecDepth 100000
set_option maxHeartbeats 4000000
/-! Rules that the layer lacks: set(xs) of a list of ints, dict(xs) of pairs with tuple keys. -/
namespace Lh
open PySem PySem.Spec PyProof.Rows L2 PySem.W
section
variable {P : Program} {w : World} {A : Around} {E : Value → Shared → Prop} {s : Shared}
set_option maxRecDepth 100000 in
set_option maxHeartbeats 3200000 in
theorem set_of_list {l : Addr} {items : Array Value} (ns : List Int) {Q : Value → Shared → Prop} (hh : A.handled = none) (hl : s.heap.IsList l items) (hit : IntsAre items.toList ns) (hb : ns.length + 1 < scanBound)
    (h : ∀ (h' : Heap) (tk c : Nat), SetR w h' s.heap.objs.size (fun j => decide (j ∈ ns)) c → c ≤ ns.length → (∀ b o, s.heap.get? b = some o → h'.get? b = some o) → Q (.ref s.heap.objs.size) { s with heap := h', toks := tk }) :
    wpAny (model P w) A (call (.type "set") [.ref l]) Q E s := by
  have hisz : items.size = ns.length := by
    have q := IntsAre.length hit
    rw [Array.length_toList] at q
    exact q
  obtain ⟨c, tl, hmro⟩ := F.called_set.mro
  have hmade := F.called_set.made
  have hsub := F.called_set.sub
  refine wpAny_call (codeAny_of_tree ?_)
  show wpAny _ _ (callAny (.type "set") _) _ _ _
  refine wpAny_pure ⟨Code.quiet_builtin _ (by decide +kernel), codeAny_builtin F.entry_type_call ?_⟩
  rw [Around.under_plain (weight_type_call_type "set" [.ref l] []) rfl]
  have h1 := F.called_set.notType
  have h2 := F.called_set.canCreate
  have hct := F.typeCall_set_1 (.ref l)
  repeat (any_goals (first | assumption | wp_step))

  refine codeAny_mono (code_set_led1 (.ref l) (E := E) (Q₁ := fun obj s₁ => obj = .ref s.heap.objs.size ∧ s₁ = { s with heap := s.heap.push { cls := .type "set", dict := none, data := .set #[] 0 (.fresh 0 0 (!w.params.followText "set-order")) } }) ⟨rfl, rfl⟩) fun r s₁ hr => ?_
  cases r with
  | error e => exact hr
  | ok fl =>
    cases fl with
    | ret obj =>
      obtain ⟨rfl, rfl⟩ := hr
      have hS : (s.heap.push { cls := .type "set", dict := none, data := .set #[] 0 (.fresh 0 0 (!w.params.followText "set-order")) }).get? s.heap.objs.size = some { cls := .type "set", dict := none, data := .set #[] 0 (.fresh 0 0 (!w.params.followText "set-order")) } := Heap.get?_push_size _ rfl
      have hT : Shared.TypeIs { s with heap := s.heap.push { cls := .type "set", dict := none, data := .set #[] 0 (.fresh 0 0 (!w.params.followText "set-order")) } } (.ref s.heap.objs.size) "set" := ⟨_, hS, rfl⟩
      have hli := F.called_set.init.lookup
      have hbi := F.called_set.init.bind (.ref s.heap.objs.size)
      repeat (any_goals (first | assumption | wp_step))

      refine codeAny_mono (codeAny_call_builtin (R := wants (fun r s₂ => r = .none ∧ ∃ h' tk c, s₂ = { s with heap := h', toks := tk } ∧ SetR w h' s.heap.objs.size (fun j => decide (j ∈ ns)) c ∧ c ≤ ns.length ∧
          (∀ b o, s.heap.get? b = some o → h'.get? b = some o)) E) F.called_set.init.plain F.entry_set_init (check_set_init_1 hT ?_)) fun r₂ s₂ hr₂ => ?_
      · obtain ⟨ol, hol, hcl, nl, hdl⟩ := hl
        obtain ⟨ocls, odict, odata, oslots⟩ := ol
        simp only at hcl hdl
        subst hcl; subst hdl
        have hol' : (s.heap.push { cls := .type "set", dict := none, data := .set #[] 0 (.fresh 0 0 (!w.params.followText "set-order")) }).get? l = some { cls := .type "list", dict := odict, data := .seq items nl, slots := oslots } := Heap.get?_push_of_some _ hol
        have hsls := F.sub_list_set
        have hslf := F.sub_list_frozenset
        have hne : (Value.type "list" == Value.type "dict") = false := by decide
        have hl1 : (s.heap.push { cls := .type "set", dict := none, data := .set #[] 0 (.fresh 0 0 (!w.params.followText "set-order")) }).IsList l items := ⟨_, hol', rfl, nl, rfl⟩
        unfold Builtin.«set.__init__» noKeywords Builtin.Frozenset.updateFrom
        generalize hPI : pyIter = PI
        wp_walk
        subst hPI

        refine wpAny_pyIter_list hl1 ?_
        refine wpAny_bind (wpAny_runValue ?_)
        have hlS : l < s.heap.objs.size := Heap.lt_size hol
        have hh3 : A.in1.in1.in1.handled = none := by simp [hh]
        have hz1 : (s.heap.push { cls := .type "set", dict := none, data := .set #[] 0 (.fresh 0 0 (!w.params.followText "set-order")) }).objs.size = s.heap.objs.size + 1 := Heap.size_push ..
        have hneI : l ≠ (s.heap.push { cls := .type "set", dict := none, data := .set #[] 0 (.fresh 0 0 (!w.params.followText "set-order")) }).objs.size := by
          rw [Heap.size_push]; exact Nat.ne_of_lt (Nat.lt_succ_of_lt hlS)
        have hSf : s.heap.objs.size ∉ [(s.heap.push { cls := .type "set", dict := none, data := .set #[] 0 (.fresh 0 0 (!w.params.followText "set-order")) }).objs.size, l] := by
          rw [Heap.size_push]; simp only [List.mem_cons, List.mem_singleton, List.not_mem_nil, or_false, not_or]
          exact ⟨Nat.ne_of_lt (Nat.lt_succ_self _), Nat.ne_of_gt hlS⟩
        have hval : ∀ (i : Nat) (v : Value), items[i]? = some v → ∃ k t, ns[i]? = some k ∧ v = .int k t := fun i v hv => by
          have hi : i < ns.length := by rw [← hisz]; exact (Array.getElem?_eq_some_iff.mp hv).1
          obtain ⟨t, e⟩ := PyProof.Rows.IntsAre.int_at hit i v (by rw [Array.getElem?_toList]; exact hv)
          refine ⟨ns[i], t, List.getElem?_eq_getElem hi, ?_⟩
          rw [e, List.getD_eq_getElem?_getD, List.getElem?_eq_getElem hi] <;> rfl
        refine set_update_ints ((Walks.list hh3 _ l hneI items).toS) s.heap.objs.size
          hSf ns hisz hb hval (items.size - 0) 0 _ (by omega) (Nat.zero_le _)
          ⟨⟨_, Heap.get?_push_size _ rfl, rfl, rfl⟩, (hl1.push _)⟩ ?hS0 ?hR
        case hS0 =>
          have hget : ((s.heap.push { cls := .type "set", dict := none, data := .set #[] 0 (.fresh 0 0 (!w.params.followText "set-order")) }).push { cls := .type "list_iterator", data := .fields #[.ref l, .int 0 0] }).get? s.heap.objs.size
              = some { cls := .type "set", dict := none, data := .set #[] 0 (.fresh 0 0 (!w.params.followText "set-order")) } := Heap.get?_push_of_some _ hS
          exact ⟨0, Nat.le_refl 0, setR_new_at hget⟩
        case hR =>
          intro s' c' hm hc' hS'
          obtain ⟨h', g2, d', tk', os'⟩ := s'
          have eg : g2 = s.gens := hm.gens
          have ed : d' = s.drawn := hm.drawn
          have eo : os' = s.os := hm.os
          subst eg; subst ed; subst eo
          show wpAny _ _ _ _ _ _
          refine wpAny_pure ?_
          show wpAny _ _ (ret Value.none) _ _ _
          rw [hisz] at hc'
          refine wpAny_pure ⟨rfl, h', tk', c', rfl, hS', hc', fun b o e => ?_⟩
          have hb0 : b < s.heap.objs.size := Heap.lt_size e
          have hb1 : b ≠ s.heap.objs.size := Nat.ne_of_lt hb0
          have hb2 : b ≠ (s.heap.push { cls := .type "set", dict := none, data := .set #[] 0 (.fresh 0 0 (!w.params.followText "set-order")) }).objs.size := by
            rw [Heap.size_push]; exact Nat.ne_of_lt (Nat.lt_succ_of_lt hb0)
          exact hm.heap b o (by simp only [List.mem_cons, List.mem_singleton, List.not_mem_nil, or_false, not_or]; exact ⟨hb1, hb2⟩) (Heap.get?_push_of_some _ (Heap.get?_push_of_some _ e))

      · cases r₂ with
        | error e => exact hr₂
        | ok fl₂ =>
          cases fl₂ with
          | ret r =>
            obtain ⟨rfl, h', tk, c', rfl, hS', hc', hk'⟩ := hr₂
            repeat (any_goals (first | assumption | wp_step))
            exact h _ _ _ hS' hc' hk'
          | _ => exact hr₂.elim
    | _ => exact hr.elim

end
section
variable {X : Cx}
/-- set(xs) of a list of ints -/
def rSetLI (K : Frag) (w : World) : List V → Hp → VK → Prop := fun xs H Q => ∃ (l : Addr) (ns : List Int), xs = [V.ref l] ∧ SqL K H l (ns.map V.int) ∧ ns.length ≤ 1000 ∧ ∀ a n, H a = none → n ≤ ns.length → Q (.ref a) (upd H a (SetO w a (fun j => decide (j ∈ ns)) n))
theorem cr_setLI (K : Frag) (w : World) (hc : X.calm = true := by rfl) (hK : X.K = K := by rfl) (hw : X.w = w := by rfl) : CallR X (.type "set") (rSetLI K w) := by
  subst hK hw
  rintro pins s σ H xs us Q I r ⟨l, ns, rfl, hl, hn, q⟩
  rw [Vals.ref1 r]
  obtain ⟨its, rv, pl, hz⟩ := I.list hl
  exact set_of_list (P := X.prog) (w := X.w) ns (I.ok.hd hc) pl.isList (ints_of_vals rv) (Nat.lt_of_le_of_lt (Nat.add_le_add_right hn 1) (by decide)) fun h' tk c R hc k =>
    ⟨.ref s.heap.objs.size, upd H s.heap.objs.size (SetO X.w s.heap.objs.size (fun j => decide (j ∈ ns)) c), I.laid (t' := tk) k (Nat.le_refl _) (setO_new R), rfl, q _ c (I.hok.fresh (Nat.le_refl _)) hc⟩
theorem k_sortedSet (w : World) (hc : X.calm = true := by rfl) (hw : X.w = w := by rfl) : CallR X (.builtin "sorted") (rSortedSet w) := hw ▸ cr_sortedSet hc

/-! dict(xs) of a list of pairs (a tuple of ints and texts, a value), the keys unlike -/
def rDictPT (K : Frag) : List V → Hp → VK → Prop := fun xs H Q => ∃ (a : Addr) (ps : List (Addr × Addr)) (kvs : List (List Key × V)), xs = [.ref a] ∧ SqL K H a (ps.map fun p => V.ref p.1) ∧
  Paired (fun p kv => H p.1 = some (.tup [.ref p.2, kv.2]) ∧ H p.2 = some (.tup (kv.1.map kV))) ps kvs ∧ (kvs.map (·.1)).Nodup ∧ kvs.length ≤ 100000 ∧ ∀ p, H p = none → Q (.ref p) (upd H p (.dT kvs))
variable {pins : List (Addr × Obj)} {σ : L2.St} {H : Hp} {s : Shared}
theorem tups_of (I : Inv X pins σ H s) : ∀ {ps : List (Addr × Addr)} {kvs : List (List Key × V)}, Paired (fun p kv => H p.1 = some (.tup [.ref p.2, kv.2]) ∧ H p.2 = some (.tup (kv.1.map kV))) ps kvs →
    ∃ xs : List (List Key × Addr × Value), KT H kvs xs ∧ xs.length = ps.length ∧ ∀ (j : Nat) (x : List Key × Addr × Value), xs[j]? = some x → ∃ p, ps[j]? = some p ∧ IsTup s.heap p.1 #[.ref x.2.1, x.2.2]
  | _, _, .nil => ⟨[], .nil, rfl, fun j x e => by simp at e⟩
  | _, _, .cons (a := p) (b := kv) ⟨h1, h2⟩ t => by
    obtain ⟨xs, r, hl, hx⟩ := tups_of I t
    obtain ⟨its, rv, ht, _⟩ := I.tuple (a := p.1) (xs := [.ref p.2, kv.2]) (.inl (.inl h1))
    obtain ⟨u, y, ei, ru, ry⟩ := vals2 rv
    subst ei
    cases ru
    refine ⟨(kv.1, p.2, y) :: xs, .cons ⟨rfl, h2, ry⟩ r, congrArg (· + 1) hl, fun j x e => ?_⟩
    cases j with
    | zero =>
      cases Option.some.inj e
      exact ⟨p, rfl, ht⟩
    | succ j =>
      obtain ⟨q, e1, e2⟩ := hx j x (by simpa using e)
      exact ⟨q, by simpa using e1, e2⟩
theorem stored_all : ∀ (ps xs : List (List Key × Addr × Value)), ((xs ++ ps).map (·.1)).Nodup → storedAllH xs ps = xs ++ ps
  | [], xs, _ => (List.append_nil xs).symm
  | p :: ps, xs, h => by
    show storedAllH (storedH xs p.1 p.2.1 p.2.2) ps = _
    have hk : atKey xs p.1 = none := by
      cases e : atKey xs p.1 with
      | none => rfl
      | some y =>
        exfalso
        have hm : p.1 ∈ xs.map (·.1) := by
          unfold atKey at e
          obtain ⟨x, ex, _⟩ := Option.map_eq_some_iff.mp e
          have h2 := List.find?_some ex
          rw [← of_decide_eq_true h2]
          exact List.mem_map_of_mem (List.mem_of_find?_eq_some ex)
        rw [List.map_append, List.nodup_append] at h
        exact h.2.2 _ hm _ (List.mem_map_of_mem List.mem_cons_self) rfl
    rw [storedH_new hk, stored_all ps (xs ++ [p]) (by rw [List.append_assoc]; exact h), List.append_assoc]
    rfl
theorem kt_mem {kvs : List (List Key × V)} {xs : List (List Key × Addr × Value)} (r : KT H kvs xs) : ∀ x ∈ xs, H x.2.1 = some (.tup (x.1.map kV)) := by
  induction r with
  | nil => intro x hx; cases hx
  | cons h _ ih =>
    intro x hx
    rcases List.mem_cons.mp hx with e | hx
    · subst e
      rw [← h.1]
      exact h.2.1
    · exact ih x hx
theorem kt_upd {a : Addr} {o : HO} (hn : H a = none) {kvs : List (List Key × V)} {xs : List (List Key × Addr × Value)} (r : KT H kvs xs) : KT (upd H a o) kvs xs := by
  induction r with
  | nil => exact .nil
  | cons h _ ih => exact .cons ⟨h.1, ext_new hn _ _ h.2.1, h.2.2⟩ ih
theorem cr_dictPT (K : Frag) (hu : X.A.units + 64 < cLine) (hc : X.calm = true := by rfl) (hK : X.K = K := by rfl) : CallR X (.type "dict") (rDictPT K) := by
  subst hK
  rintro pins s σ H us vs Q I r ⟨a, ps, kvs, rfl, hl, hp, nd, hn, q⟩
  rw [Vals.ref1 r]
  obtain ⟨its, rv, pl, hz⟩ := I.list hl
  obtain ⟨xs, rel, hlen, hx⟩ := tups_of I hp
  obtain ⟨o, n, ho, hcl, hdn, hdat⟩ := pl
  have hitl : its.length = ps.length := by rw [← rv.length, List.length_map]
  have hkl : kvs.length = xs.length := rel.length
  have hux : ((xs.map fun x => (Value.ref x.2.1, x.2.2)) : List (Value × Value)).length = xs.length := List.length_map ..
  have hnd : (xs.map (·.1)).Nodup := by
    have e : xs.map (·.1) = kvs.map (·.1) := by
      clear nd hn q hp hx hlen hkl hux
      induction rel with
      | nil => rfl
      | cons h _ ih => rw [List.map_cons, List.map_cons, ih, h.1]
    rw [e]
    exact nd
  have items : ∀ (j : Nat) (x : List Key × Addr × Value), xs[j]? = some x → ∃ p, ps[j]? = some p ∧ its[j]? = some (Value.ref p.1) ∧ IsTup s.heap p.1 #[.ref x.2.1, x.2.2] := fun j x e => by
    obtain ⟨p, e1, e2⟩ := hx j x e
    obtain ⟨u, eu, ru⟩ := rv.get (show (ps.map fun p => V.ref p.1)[j]? = some (V.ref p.1) by rw [List.getElem?_map, e1]; rfl)
    cases ru
    exact ⟨p, e1, eu, e2⟩
  refine call_dict_pairsH (knd := tupleKind (mixKind X.prog X.w)) (ps := xs) (PairArg.list (prog := X.prog) (w := X.w) a its.toArray (fun j => ((ps[j]?).map (·.1)).getD 0) (xs.map fun x => (Value.ref x.2.1, x.2.2))) (I.ok.hd hc) ?_ ⟨⟨o, n, ho, hcl, hdn, hdat⟩, ?_, ?_⟩ ⟨hux.symm, ?_⟩ ?_ ?_ fun h' tk hd k => ?_
  · show X.A.units + 1 + 1 < cLine
    omega
  · rw [List.size_toArray, hux, hitl, hlen]
  · intro j k v e
    rw [List.getElem?_map] at e
    cases ex : xs[j]? with
    | none => rw [ex] at e; cases e
    | some x =>
      rw [ex] at e
      cases e
      obtain ⟨p, e1, e2, e3⟩ := items j x ex
      refine ⟨by simp [e1, e2], .inl ?_⟩
      show s.heap.IsTuple (((ps[j]?).map (·.1)).getD 0) _
      rw [e1]
      exact e3
  · intro j key v e
    rw [PairRel, List.getElem?_map] at e
    cases ex : xs[j]? with
    | none => rw [ex] at e; cases e
    | some x =>
      rw [ex] at e
      cases e
      exact ⟨x.1, x.2.1, rfl, rfl⟩
  · intro h' kk x hxm
    obtain ⟨o2, arr, n2, g1, g2⟩ := key_of (P := X.prog) (w := X.w) I.hok (kt_mem rel x hxm)
    exact ⟨o2, arr, n2, kk _ _ (Nat.ne_of_lt (Heap.lt_size g1)) (by simp) g1, g2⟩
  · rw [hux, ← hkl]
    exact le_line hn
  · rw [stored_all xs [] hnd, List.nil_append] at hd
    obtain ⟨o', es, ep, g1, g2, g3, g4, _, g6⟩ := hd
    refine ⟨.ref s.heap.objs.size, upd H s.heap.objs.size (.dT kvs), I.laid (o := .dT kvs) (t' := tk) (fun b o e => k b o (by simp) e) (Nat.le_refl _) ⟨le_line hn, beq_eq_false_iff_ne.mpr (Nat.ne_of_gt I.big), xs, ?_, o', es, ep, g1, g2, g3, g4, g6⟩, rfl, q _ (I.hok.fresh (Nat.le_refl _))⟩
    exact kt_upd (I.hok.fresh (Nat.le_refl _)) rel
end
end Lh

set_option Elab.async false
set_option linter.all false
set_option maxRecDepth 100000
set_option maxHeartbeats 4000000
/-! enumerate(t) of a tuple. -/
namespace Lh
open PySem PySem.Spec PyProof.Rows L2 PySem.W
set_option maxHeartbeats 1000000 in
theorem meets_enum1 {v : Value} {ob : Obj} {G : Heap → Prop} (B : Begins v ob G) :
    Meets (Builtin.«enumerate.__new__» ⟨[.type "enumerate", v], []⟩) (fun _ R s => G s.heap ∧
      R (.ok (.ret (.ref (s.heap.push ob).objs.size))) { s with heap := (s.heap.push ob).push { cls := .type "enumerate", data := .fields #[.none, .bool false, .ref s.heap.objs.size, rawInt 0, .none, .none] } }) :=
  .of_wp fun prog w A R s h => by
    obtain ⟨hp, g, d, tk, os⟩ := s
    obtain ⟨h1, h⟩ := h
    have hsub := sub_enumerate
    have q1 : ∀ {A' : Around} {E : Value → Shared → Prop} {Q : Value → Shared → Prop}, Q (.ref hp.objs.size) ⟨hp.push ob, g, d, tk, os⟩ → wpAny (model prog w) A' (pyIter v) Q E ⟨hp, g, d, tk, os⟩ :=
      fun q => B.iter prog w _ _ ⟨hp, g, d, tk, os⟩ _ h1 q
    wp_walk using q1
    refine wpAny_stack_any fun st => wpAny_pure ?_
    split
    · rename_i c _ _ _ _ _
      cases (c == Value.type "enumerate") <;> (wp_walk using q1; exact ⟨_, rfl, h⟩)
    · wp_walk using q1
      exact ⟨_, rfl, h⟩
theorem enum_call1 {prog : Program} {w : World} {A : Around} {E : Value → Shared → Prop} {s : Shared} {v : Value} {ob : Obj} {G : Heap → Prop} {Q : Value → Shared → Prop} (B : Begins v ob G) (h1 : G s.heap)
    (h : ∀ h', IsEnum h' (s.heap.objs.size + 1) s.heap.objs.size 0 .none → h'.get? s.heap.objs.size = some ob → (∀ b u, s.heap.get? b = some u → h'.get? b = some u) → Q (.ref (s.heap.objs.size + 1)) { s with heap := h' }) :
    wpAny (model prog w) A (call (.type "enumerate") [v]) Q E s := by
  refine callType_new F.called_enumerate (by decide) (F.typeCall_enumerate_1 _) (F.newCall_enumerate_1 _) (fun obj => F.args_object_init_2 obj _) F.entry_enumerate_new (meets_enum1 B) ⟨h1, ?_⟩
  have hz : (s.heap.push ob).objs.size = s.heap.objs.size + 1 := Heap.size_push ..
  show _ ∧ _
  rw [hz]
  have he : IsEnum ((s.heap.push ob).push { cls := .type "enumerate", data := .fields #[.none, .bool false, .ref s.heap.objs.size, rawInt 0, .none, .none] }) (s.heap.objs.size + 1) s.heap.objs.size 0 .none := by
    have q := Heap.get?_push_size (s.heap.push ob) (o := { cls := .type "enumerate", data := .fields #[.none, .bool false, .ref s.heap.objs.size, rawInt 0, .none, .none] }) rfl
    rw [hz] at q
    exact q
  exact ⟨⟨_, he, rfl⟩, h _ he (Heap.get?_push_of_some _ (Heap.get?_push_size _ B.free)) fun b u x => Heap.get?_push_of_some _ (Heap.get?_push_of_some _ x)⟩
def IteT (K : Frag) (a : Addr) : It :=
  ⟨fun i H => ∃ (xs : List V) (x : V), SqT K H a xs ∧ xs[i]? = some x, fun i H v H' => ∃ T x, v = .ref T ∧ H T = none ∧ H' = upd H T (.tup [.int (i : Nat), x]) ∧ ∀ xs, SqT K H a xs → xs[i]? = some x, fun i H => ∃ xs : List V, SqT K H a xs ∧ xs.length = i⟩
theorem turn_enumT {P : Program} {w : World} {K : Frag} {elts : List Expr} {kk : Nat} {tpos : Pos} (a e it : Addr) :
    Turn P w K (.Tuple elts kk tpos) (IteT K a) [e, it] e (fun i h => (∃ old, IsEnum h e it ((i : Nat) : Int) old) ∧ h.IsTupleIter it a i ∧ e ≠ it) where
  mem := by simp
  obj := fun i h st b hb => by
    obtain ⟨⟨old, he⟩, ⟨o, ho, hc, hd⟩, _⟩ := st
    rcases List.mem_cons.mp hb with z | z
    · rw [z]
      exact ⟨_, he, fun v q => nomatch q⟩
    · rw [List.mem_singleton.mp z]
      exact ⟨o, ho, fun v q => by rw [hd] at q; cases q⟩
  keep := fun i h h' st k => by
    obtain ⟨⟨old, he⟩, hi, hne⟩ := st
    exact ⟨⟨old, k e (by simp) _ he⟩, hi.at fun o q => k it (by simp) o q, hne⟩
  item := by
    rintro X rfl rfl rfl hc i pins s σ H E I hf ⟨⟨old, he⟩, hit, hne⟩ ⟨xs, x, hq, hx⟩
    obtain ⟨its, rv, p, hz⟩ := I.tuple hq
    obtain ⟨u, hu, ru⟩ := rv.get hx
    have ⟨oa, ga, ca, na, da⟩ := p
    have ⟨oi, gi, ci, di⟩ := hit
    have nai : a ≠ it := fun z => by
      rw [z, gi] at ga
      cases ga
      rw [ci] at ca
      exact absurd ca (by decide)
    have nea : e ≠ a := fun z => by
      rw [z] at he
      have he' : s.heap.get? a = some _ := he
      rw [ga] at he'
      cases he'
      exact absurd (show Value.type "enumerate" = Value.type "tuple" from ca) (by decide)
    have Dr := Draws.tuple (prog := X.prog) (w := X.w) (A := X.A.in1) (I.ok.hd hc) it a nai its.toArray
    have hlt : i < its.toArray.size := by
      rw [List.size_toArray, ← rv.length]
      exact (List.getElem?_eq_some_iff.mp hx).1
    refine (GoesN.enumFrom (elts := elts) (x1 := kk) (pos := tpos) 0 Dr e hne (by simp only [List.mem_cons, List.not_mem_nil, or_false, not_or]; exact ⟨hne, nea⟩) (by simp)).goes i s
      (fun u s2 => ∃ x H', Inv X pins σ H' s2 ∧ RelV x u ∧ (IteT X.K a).yld i H x H' ∧ ((∃ old, IsEnum s2.heap e it ((i + 1 : Nat) : Int) old) ∧ s2.heap.IsTupleIter it a (i + 1) ∧ e ≠ it) ∧ ∀ b ∈ [e, it], H' b = none) E hlt ⟨⟨old, by rw [Int.zero_add]; exact he⟩, hit, p⟩ fun v h' tk ⟨T, t, y, ev, hn, hy, hT⟩ st' hk htk => ?_
    obtain ⟨⟨old', he'⟩, hit', _⟩ := st'
    rw [Int.zero_add] at he' hT
    have ey : y = u := by
      have : its.toArray[i]? = some y := hy
      rw [List.getElem?_toArray, hu] at this
      exact (Option.some.inj this).symm
    subst ey ev
    have new : ObjOk X.prog X.w (upd H T (.tup [.int (i : Nat), x])) h' T (.tup [.int (i : Nat), x]) :=
      ⟨by show 2 ≤ sizeLine; decide, [.int i t, y], .cons ⟨_, rfl⟩ (.cons ru .nil), hT⟩
    refine ⟨.ref T, upd H T (.tup [.int (i : Nat), x]), I.turnedNew (ch := [e, it]) hk hf hn new, rfl, ⟨T, x, rfl, I.hok.fresh hn, rfl, fun ys hys => ?_⟩, ⟨⟨old', he'⟩, hit', hne⟩, fun b hb => ?_⟩
    · rw [I.tuple_inj hys hq]
      exact hx
    · have hb' : b < s.heap.objs.size := by
        rcases List.mem_cons.mp hb with z | z
        · rw [z]; exact Heap.lt_size he
        · rw [List.mem_singleton.mp z]; exact Heap.lt_size gi
      rw [upd_ne (Nat.ne_of_lt (Nat.lt_of_lt_of_le hb' hn))]
      exact (hf b hb).1
  done := by
    rintro X rfl rfl rfl hc i pins s σ H E I hf ⟨⟨old, he⟩, hit, hne⟩ ⟨xs, hq, hx⟩
    obtain ⟨its, rv, p, hz⟩ := I.tuple hq
    have ⟨oa, ga, ca, na, da⟩ := p
    have ⟨oi, gi, ci, di⟩ := hit
    have nai : a ≠ it := fun z => by
      rw [z, gi] at ga
      cases ga
      rw [ci] at ca
      exact absurd ca (by decide)
    have Dr := Draws.tuple (prog := X.prog) (w := X.w) (A := X.A.in1) (I.ok.hd hc) it a nai its.toArray
    obtain ⟨f0, f1, f2, f3, f4, f5⟩ := hf it (by simp)
    have hi : i = its.toArray.size := by rw [List.size_toArray, ← rv.length, hx]
    exact wpAny_pyNext_enum_endD Dr he (by rw [← hi]; exact ⟨hit, p⟩) fun h' eb => ⟨rfl, I.turned (t' := s.toks) (fun b o hb q => eb b o hb q) f0 f1 f3 f4 f5⟩
  self := fun A i s Q E st h => by
    obtain ⟨⟨_, he⟩, _⟩ := st
    exact wpAny_pyIter_enum he h
def iEnumT (K : Frag) (ta : TA) : TI := fun σ H R => ta σ H fun vs H1 => ∃ a xs, vs = [.ref a] ∧ SqT K H1 a xs ∧ R (IteT K a) H1
theorem k_enumT (K : Frag) {X : Cx} {e : Expr} {ta : TA} {p pos tpos : Pos} {elts : List Expr} {kk : Nat} (hg : Gl X "enumerate") (hm : X.mg "enumerate" = none) (ha : PA X [e] ta) (hs : starEach [e] X.env = [(false, eval e X.env)] := by rfl) (hK : X.K = K := by rfl) :
    PI X (.Tuple elts kk tpos) (.Call (.Name "enumerate" p) [e] [] pos) (iEnumT K ta) := by
  subst hK
  refine ⟨fun pins s σ H R I h => ?_⟩
  refine Call_ (ld_blt I hg hm boot_enumerate (PyProof.Rows.callWith_type1 (thn (ha.run pos pins s σ H _ I h) fun us s1 ⟨vs, H1, I1, r1, q1⟩ => ?_) hs rfl))
  obtain ⟨a, xs, rfl, hq, q⟩ := q1
  rw [Vals.ref1 r1]
  obtain ⟨its, rv, tp, hz⟩ := I1.tuple hq
  refine enum_call1 (begins_tuple a its.toArray) tp fun h' he hit hk => wpAny_pyIter_enum he ?_
  have I2 : Inv X pins σ H1 { s1 with heap := h' } := I1.kept (t' := s1.toks) hk
  refine ⟨s1.heap.objs.size + 1, [s1.heap.objs.size + 1, s1.heap.objs.size], _, _, H1, rfl, I2, turn_enumT a (s1.heap.objs.size + 1) s1.heap.objs.size, ⟨⟨.none, he⟩, ⟨_, hit, rfl, rfl⟩, Nat.succ_ne_self _⟩, fun b hb => ?_, q⟩
  have hle : s1.heap.objs.size ≤ b := by
    rcases List.mem_cons.mp hb with z | z
    · rw [z]; exact Nat.le_succ _
    · rw [List.mem_singleton.mp z]; exact Nat.le_refl _
  exact I1.fpOk hle (I1.hok.fresh hle) |> fun f => ⟨f.1, f.2.1, f.2.2.1, f.2.2.2.1, f.2.2.2.2.1, f.2.2.2.2.2⟩
end Lh

set_option Elab.async false
set_option linter.all false
set_option maxRecDepth 100000
set_option maxHeartbeats 4000000
/-! The drawing's state: a dict of two lists of ints and two ints. -/
namespace Lh
open PySem PySem.Spec PyProof.Rows L2 PySem.W
def stK (g c : Addr) (r t : Int) : List (Key × V) := [(.inr "great", .ref g), (.inr "cells", .ref c), (.inr "rest", .int r), (.inr "turn", .int t)]
abbrev kG : Key := Sum.inr "great"
abbrev kC : Key := Sum.inr "cells"
abbrev kR : Key := Sum.inr "rest"
abbrev kT : Key := Sum.inr "turn"
theorem kGC : ¬ kG = kC := by decide +kernel
theorem kGR : ¬ kG = kR := by decide +kernel
theorem kGT : ¬ kG = kT := by decide +kernel
theorem kCR : ¬ kC = kR := by decide +kernel
theorem kCT : ¬ kC = kT := by decide +kernel
theorem kRT : ¬ kR = kT := by decide +kernel
theorem st_great (g c : Addr) (r t : Int) : valV (stK g c r t) kG = some (.ref g) := valV_pos rfl
theorem st_cells (g c : Addr) (r t : Int) : valV (stK g c r t) kC = some (.ref c) := (valV_neg kGC).trans (valV_pos rfl)
theorem st_rest (g c : Addr) (r t : Int) : valV (stK g c r t) kR = some (.int r) := (valV_neg kGR).trans ((valV_neg kCR).trans (valV_pos rfl))
theorem st_turn (g c : Addr) (r t : Int) : valV (stK g c r t) kT = some (.int t) := (valV_neg kGT).trans ((valV_neg kCT).trans ((valV_neg kRT).trans (valV_pos rfl)))
theorem st_putR (g c : Addr) (r t r' : Int) : putK (stK g c r t) kR (.int r') = stK g c r' t := by
  unfold putK
  rw [valV_any, st_rest]
  show [if kG = kR then _ else (kG, V.ref g), if kC = kR then _ else (kC, V.ref c), if kR = kR then (kR, V.int r') else _, if kT = kR then _ else (kT, V.int t)] = _
  rw [if_neg kGR, if_neg kCR, if_pos rfl, if_neg (fun e => kRT e.symm)]
  rfl
theorem st_putT (g c : Addr) (r t t' : Int) : putK (stK g c r t) kT (.int t') = stK g c r t' := by
  unfold putK
  rw [valV_any, st_turn]
  show [if kG = kT then _ else (kG, V.ref g), if kC = kT then _ else (kC, V.ref c), if kR = kT then _ else (kR, V.int r), if kT = kT then (kT, V.int t') else _] = _
  rw [if_neg kGT, if_neg kCT, if_neg kRT, if_pos rfl]
  rfl
/-- the state stands at p, with lists at g and c -/
structure StD (p g c : Addr) (r t : Int) (gs cs : List Int) (H : Hp) : Prop where
  hp : H p = some (.dK (stK g c r t))
  hg : H g = some (.lst (gs.map V.int))
  hc : H c = some (.lst (cs.map V.int))
  ne : g ≠ c
/-- how often the state may be mixed -/
def capN : Nat := 1000000000
def StA (p g c : Addr) (n : Nat) (H : Hp) : Prop := ∃ r t gs cs, StD p g c r t gs cs H ∧ 0 ≤ t ∧ t ≤ n
section
variable {p g c : Addr} {r t : Int} {gs cs : List Int} {H H' : Hp}
theorem StD.pg (h : StD p g c r t gs cs H) : p ≠ g := ne_of h.hp h.hg (by intro z; cases z)
theorem StD.pc (h : StD p g c r t gs cs H) : p ≠ c := ne_of h.hp h.hc (by intro z; cases z)
theorem StD.setP (h : StD p g c r t gs cs H) (r' t' : Int) : StD p g c r' t' gs cs (upd H p (.dK (stK g c r' t'))) :=
  ⟨upd_same, by rw [upd_ne h.pg.symm]; exact h.hg, by rw [upd_ne h.pc.symm]; exact h.hc, h.ne⟩
theorem StD.setG (h : StD p g c r t gs cs H) (gs' : List Int) : StD p g c r t gs' cs (upd H g (.lst (gs'.map V.int))) :=
  ⟨by rw [upd_ne h.pg]; exact h.hp, upd_same, by rw [upd_ne h.ne.symm]; exact h.hc, h.ne⟩
end
/-- what a def on the state changes -/
abbrev Sm (p g c a : Addr) : Prop := a = p ∨ a = g ∨ a = c
/-- from the state and such data to a datum of such a kind, at most k mixings -/
def spS (k : Nat) (rel : List PyData → (PyData → Prop) → Prop) : Sp := fun vs H Q _ => ∃ A p g c n us ds R, vs = .ref p :: us ∧ DqA A H us ds ∧ (∀ a, A a → H a ≠ none) ∧ (∀ a, Sm p g c a → A a) ∧ n + k ≤ capN ∧ StA p g c n H ∧ rel ds R ∧
  ∀ v d H', (∀ a o, H a = some o → ¬ Sm p g c a → H' a = some o) → StA p g c (n + k) H' → Dq A H' v d → R d → Q v H'
theorem StA.trk {p g c a : Addr} {n : Nat} {H : Hp} (h : StA p g c n H) (hm : Sm p g c a) : H a ≠ none := by
  obtain ⟨r, t, gs, cs, h, _⟩ := h
  rcases hm with e | e | e
  · rw [e, h.hp]; exact fun z => nomatch z
  · rw [e, h.hg]; exact fun z => nomatch z
  · rw [e, h.hc]; exact fun z => nomatch z
theorem StA.keep {p g c : Addr} {n : Nat} {H H' : Hp} (h : StA p g c n H) (k : ∀ a o, H a = some o → Sm p g c a → H' a = some o) : StA p g c n H' := by
  obtain ⟨r, t, gs, cs, h, ht⟩ := h
  exact ⟨r, t, gs, cs, ⟨k _ _ h.hp (.inl rfl), k _ _ h.hg (.inr (.inl rfl)), k _ _ h.hc (.inr (.inr rfl)), h.ne⟩, ht⟩
theorem StA.up {p g c : Addr} {n n' : Nat} {H : Hp} (h : StA p g c n H) (k : n ≤ n') : StA p g c n' H := by
  obtain ⟨r, t, gs, cs, h, h0, ht⟩ := h
  exact ⟨r, t, gs, cs, h, h0, by omega⟩
theorem StA.least {p g c : Addr} {n : Nat} {H : Hp} (h : StA p g c n H) : ∃ n0, StA p g c n0 H ∧ n0 ≤ n ∧ ∀ n', StA p g c n' H → n0 ≤ n' := by
  obtain ⟨r, t, gs, cs, h, h0, ht⟩ := h
  refine ⟨t.toNat, ⟨r, t, gs, cs, h, h0, by omega⟩, by omega, fun n' ⟨r', t', gs', cs', h', h0', ht'⟩ => ?_⟩
  have e : Lh.stK g c r t = Lh.stK g c r' t' := by
    have := h.hp.symm.trans h'.hp
    injection this with this
    injection this
  have e2 : valV (Lh.stK g c r t) kT = valV (Lh.stK g c r' t') kT := by rw [e]
  rw [st_turn, st_turn] at e2
  injection e2 with e2
  injection e2 with e2
  omega
def mS (A : Addr → Prop) (p g c : Addr) (B : Nat) (H : Hp) : Md := { H0 := H, M := Sm p g c, I := StA p g c, ok := fun n => n ≤ B, A := A, X := [], itrk := StA.trk, imono := StA.keep, iup := StA.up, okd := fun h k => Nat.le_trans k h }
/-- as places go that have the state -/
structure Has (m : Md) (p g c : Addr) (B : Nat) : Prop where
  hM : m.M = Sm p g c
  hI : m.I = StA p g c
  hok : m.ok = fun n => n ≤ B
  cap : B ≤ capN
theorem Has.add {m : Md} {p g c q : Addr} {B : Nat} (h : Has m p g c B) : Has (m.add q) p g c B := ⟨h.hM, h.hI, h.hok, h.cap⟩
theorem Has.lt {m : Md} {p g c : Addr} {B : Nat} {H : Hp} (h : Has m p g c B) : Has (m.lt H) p g c B := ⟨h.hM, h.hI, h.hok, h.cap⟩
theorem Has.del {m : Md} {p g c q : Addr} {B : Nat} (h : Has m p g c B) : Has (m.del q) p g c B := ⟨h.hM, h.hI, h.hok, h.cap⟩
def startS (n : Nat) (p : Addr) (ds : List PyData) : Gam := some (Vl (.ref p)) :: (ds.map (fun d => some (D d)) ++ List.replicate (n - (ds.length + 1)) none)
theorem env_startS {A : Addr → Prop} {p g c : Addr} {n k : Nat} {H : Hp} {N : List Str} {us : List V} {ds : List PyData} (h : DqA A H us ds) (ht : ∀ a, A a → H a ≠ none) (hs : ∀ a, Sm p g c a → A a) (hI : StA p g c n H) : Env (mS A p g c (n + k) H) k (startS N.length p ds) (L2.start N (.ref p :: us)) H := by
  refine ⟨⟨n, Nat.le_refl _, hI⟩, fun _ _ h _ => h, hs, ht, fun _ h => absurd h (by show _ ∉ []; simp), ?_, fun i g e => ?_⟩
  · unfold L2.start startS
    simp only [List.length_append, List.length_map, List.length_replicate, List.length_cons, h.length]
    omega
  · unfold startS at e
    cases i with
    | zero =>
      cases e
      exact ⟨.ref p, rfl, rfl⟩
    | succ i =>
      rw [List.getElem?_cons_succ] at e
      by_cases hi : i < ds.length
      · rw [List.getElem?_append_left (by rw [List.length_map]; exact hi), List.getElem?_map] at e
        cases ed : ds[i]? with
        | none => rw [ed] at e; cases e
        | some d =>
          rw [ed] at e
          cases e
          obtain ⟨v, ev, hv⟩ := h.get ed
          refine ⟨v, ?_, hv⟩
          unfold L2.start
          rw [List.map_cons, List.cons_append, List.getElem?_cons_succ, List.getElem?_append_left (by rw [List.length_map, h.length]; exact hi), List.getElem?_map, ev]
          rfl
      · rw [List.getElem?_append_right (by rw [List.length_map]; omega), List.getElem?_replicate] at e
        split at e <;> cases e
/-- what arguments of such kinds may be -/
def Sat : List Ag → List PyData → Prop
  | [], ds => ds = []
  | .im f :: gs, ds => ∃ d r, ds = d :: r ∧ (∃ P : PyData → Prop, f = isP P ∧ P d ∨ f = isD d) ∧ Sat gs r
  | .box _ _ :: _, _ => False
section
variable {m : Md} {k r cl ce : Nat} {Γ : Gam} {σ : L2.St} {H H' : Hp} {t : TA} {te : TE} {p g c : Addr} {B : Nat} {Ex : XK} {ds : List PyData}
/-- a def on the state, its other arguments of such kinds -/
theorem ev_callS {kk : Nat} {gs : List Ag} {rel : List PyData → (PyData → Prop) → Prop} {R : PyData → Prop} (hs : Has m p g c B) (h : EvA m cl t Γ (Vl (.ref p) :: gs)) (hr : ∀ H us, OnAll m H us gs → ∃ ds R', DqA m.A H us ds ∧ rel ds R' ∧ ∀ d, R' d → R d) : Ev m (cl + kk) (tCall (spS kk rel) [] Ex t) Γ (U R) := fun σ H E Q q =>
  h σ H E.le _ fun vs H1 s o => by
    have E1 : Env m kk Γ σ H1 := E.step s
    cases o with
    | cons o1 o2 =>
      rename_i us
      have e : _ = V.ref p := o1
      subst e
      obtain ⟨n, ho, hI⟩ := E1.inv
      rw [hs.hI] at hI
      have ho' : n + kk ≤ B := by
        have h3 := ho
        rw [hs.hok] at h3
        exact h3
      obtain ⟨n0, hI0, hle, hmin⟩ := hI.least
      obtain ⟨ds, R', hd, hrel, himp⟩ := hr H1 us o2
      have hc := hs.cap
      refine ⟨m.A, p, g, c, n0, us, ds, R', by rw [List.append_nil], hd, E1.trk, fun a ha => E1.sub a (by rw [hs.hM]; exact ha), by omega, hI0, hrel, fun v d H2 kp hS od rd => ?_⟩
      refine q v H2 ⟨fun a u e n => kp a u (s.kp a u e n) (by rw [← hs.hM]; exact n), fun n' ho2 hI2 => ?_⟩ ⟨d, od, himp d rd⟩
      have h5 := s.inv n' (m.okd ho2 (by omega)) hI2
      rw [hs.hI] at h5 ⊢
      exact hS.up (by have := hmin _ h5; omega)
/-- .. known data -/
theorem ev_callS1 {kk : Nat} {rel : List PyData → (PyData → Prop) → Prop} {R : PyData → Prop} {tp : TE} (hs : Has m p g c B) (h0 : Ev m ce tp Γ (Vl (.ref p))) (h : EvDs m cl t Γ ds) (hr : rel ds R) : Ev m ((ce + cl) + kk) (tCall (spS kk rel) [] Ex (tCons tp t)) Γ (U R) :=
  ev_callS hs (eva_cons h0 h) fun H us o => ⟨ds, R, o.data, hr, fun _ h => h⟩
/-- what a def on the state hands back -/
theorem ret_S {A : Addr → Prop} {H0 : Hp} {R : PyData → Prop} {Q : VK} {v : V} (hs : Has m p g c B) (hm : m.H0 = H0) (hA : ∀ a, A a → m.A a)
    (q : ∀ v d H', (∀ a o, H0 a = some o → ¬ Sm p g c a → H' a = some o) → StA p g c B H' → Dq A H' v d → R d → Q v H') (E : Env m k Γ σ H') (o : (U R).on m H' v) : Q v H' := by
  subst hm
  obtain ⟨d, od, rd⟩ := o
  obtain ⟨n, ho, hI⟩ := E.inv
  rw [hs.hI] at hI
  rw [hs.hok] at ho
  exact q v d H' (fun a u e n => E.fr a u e (by rw [hs.hM]; exact n)) (hI.up (Nat.le_trans (Nat.le_add_right _ _) ho)) (Dq.to (fun a u e n => ⟨e, fun z => n (hA a z)⟩) od) rd
theorem has_mS {A : Addr → Prop} {H : Hp} (h : B ≤ capN) : Has (mS A p g c B H) p g c B := ⟨rfl, rfl, rfl, h⟩
end
end Lh

set_option Elab.async false
set_option linter.all false
set_option maxRecDepth 100000
set_option maxHeartbeats 2000000
/-! Where nothing is counted: the statements' words without a cost. -/
namespace Lh
open PySem PySem.Spec PyProof.Rows L2 PySem.W
section
variable {m : Md} {k : Nat} {Γ : Gam} {σ : L2.St} {H : Hp} {g : Ag} {p : Addr} {wi : TI} {tg : TG} {tt : TT} {te : TE} {t : TA} {tbd tth tel : TS} {K : Frag} {De : Ends} {d : PyData} {ds : List PyData}
theorem go_set0 {i : Nat} (E : Env m k Γ σ H) (h : ∃ c, Ev m c te Γ g) (q : ∀ σ' H', Env m 0 (Γ.set i (some g)) σ' H' → De.nx σ' H') (hf : ∀ n, m.ok n := by intro _; trivial) : tAsg te (gName i) De σ H := by
  obtain ⟨c, h⟩ := h
  exact go_set E (.inl hf) h q
theorem go_asg0 {vs : List Nat} {f : Im} {Γ' : Gam} (E : Env m k Γ σ H) (h : ∃ c, Ev m c te Γ (.im f)) (hg : Tg m tg Γ f Γ' vs) (q : ∀ σ' H', Env m 0 Γ' σ' H' → De.nx σ' H') (hf : ∀ n, m.ok n := by intro _; trivial) : tAsg te tg De σ H := by
  obtain ⟨c, h⟩ := h
  exact go_asg E (.inl hf) h hg q
theorem go_ret0 (E : Env m k Γ σ H) (h : ∃ c, Ev m c te Γ g) (q : ∀ v H', Env m 0 Γ σ H' → g.on m H' v → De.rt v H') (hf : ∀ n, m.ok n := by intro _; trivial) : tRet te De σ H := by
  obtain ⟨c, h⟩ := h
  exact go_ret E (.inl hf) h fun v H' _ E' o => q v H' E' o
theorem go_if0 {P : Bool → Prop} (E : Env m k Γ σ H) (h : ∃ c, EvT m c tt Γ P) (k1 : P true → ∀ H', Env m 0 Γ σ H' → tth De σ H') (k2 : P false → ∀ H', Env m 0 Γ σ H' → tel De σ H') (hf : ∀ n, m.ok n := by intro _; trivial) : tIfS tt tth tel De σ H := by
  obtain ⟨c, h⟩ := h
  exact go_if E (.inl hf) h k1 k2
theorem go_box0 {i : Nat} (E : Env m k Γ σ H) (h : ∃ c, EvDs m c t Γ ds) (hz : ds.length ≤ sizeLine) (q : ∀ p σ' H', NoBox p Γ → ¬ m.A p → ¬ m.M p → Env (m.add p) 0 (Γ.set i (some (.box p (bL ds)))) σ' H' → De.nx σ' H') (hf : ∀ n, m.ok n := by intro _; trivial) : tAsg (tLst t) (gName i) De σ H := by
  obtain ⟨c, h⟩ := h
  exact go_box E (.inl hf) h hz q
theorem go_appendX0 {α : Type} [DecidableEq α] [Datum α] {xs : List α} {x : α} {i : Nat} (E : Env m k Γ σ H) (hi : Γ[i]? = some (some (Bxl p xs))) (h : ∃ c, Ev m c te Γ (J x)) (hz : xs.length < sizeLine) (hb : NoBox p (Γ.set i none))
    (q : ∀ H', Env m 0 (Γ.set i (some (Bxl p (xs ++ [x])))) σ H' → De.nx σ H') (hf : ∀ n, m.ok n := by intro _; trivial) : tDrop (tBM K "list" rAppend (tVar i) (tCons te tNil)) De σ H := by
  obtain ⟨c, h⟩ := h
  exact go_appendX E (.inl hf) hi h hz hb q
theorem go_for0 {gs : List Im} {j : Nat} (E : Env m k Γ σ H) (hI : ∃ c, EvI m c wi Γ gs) (Inv : Nat → Gam → Prop) (h0 : Inv 0 Γ)
    (ht : ∀ H1 i g Γ' k' σ' H', gs[i]? = some g → Inv i Γ' → Env (m.lt H1) k' (Γ'.set j (some (.im g))) σ' H' → tbd { De with nx := fun σ H => ∃ Γ' k', Inv (i + 1) Γ' ∧ Env (m.lt H1) k' Γ' σ H, ct := fun σ H => ∃ Γ' k', Inv (i + 1) Γ' ∧ Env (m.lt H1) k' Γ' σ H, bk := De.nx } σ' H')
    (hd : ∀ Γ' k' σ' H', Inv gs.length Γ' → Env m k' Γ' σ' H' → De.nx σ' H') (hf : ∀ n, m.ok n := by intro _; trivial) : tFor wi (gName j) tbd De σ H := by
  obtain ⟨c, h⟩ := hI
  exact go_for1 E (r := 0) (.inl hf) h (fun i Γ _ => Inv i Γ) h0 ht hd
theorem go_while0 (E : Env m k Γ σ H) (Inv : Nat → Gam → Prop) {n0 : Nat} (h0 : Inv n0 Γ)
    (ht : ∀ n Γ', Inv n Γ' → ∃ P, (∃ c, EvT m c tt Γ' P) ∧ (P true → ∀ σ' H', Env m 0 Γ' σ' H' → tbd { De with nx := fun σ H => ∃ n' Γ' k', n' < n ∧ Inv n' Γ' ∧ Env m k' Γ' σ H, ct := fun σ H => ∃ n' Γ' k', n' < n ∧ Inv n' Γ' ∧ Env m k' Γ' σ H, bk := De.nx } σ' H') ∧
      (P false → ∀ σ' H', Env m 0 Γ' σ' H' → De.nx σ' H')) (hf : ∀ n, m.ok n := by intro _; trivial) : tWhile tt tbd De σ H :=
  go_while E (fun n Γ _ => Inv n Γ) h0 fun n Γ' k' hi => by
    obtain ⟨P, ⟨c, h⟩, a, b⟩ := ht n Γ' hi
    exact ⟨c, 0, P, .inl hf, h, a, b⟩
/-- walking a tuple with its places -/
def enumD (ds : List PyData) : List PyData := (List.range ds.length).map fun i => .tuple [.int (i : Nat), ds.getD i .none]
theorem walks_enumT {A₀ : Addr → Prop} {a : Addr} (h : Dq A₀ H (.ref a) (.tuple ds)) : Walks A₀ H (IteT K a) ((enumD ds).map isD) := fun A' H' kk hA => by
  obtain ⟨_, xs, e, h1, h2, h3⟩ := Dq.tuple h
  cases e
  have e := (kk _ _ h1 h2).1
  have h4 := h3.to kk
  refine ⟨fun i g hg => ?_, xs, .inl (.inl e), ?_⟩
  · unfold enumD at hg
    rw [List.map_map, List.getElem?_map] at hg
    by_cases hi : i < ds.length
    · rw [List.getElem?_range hi] at hg
      cases hg
      have ed : ds[i]? = some ds[i] := List.getElem?_eq_getElem hi
      obtain ⟨v, ev, hv⟩ := h4.get ed
      refine ⟨⟨xs, v, .inl (.inl e), ev⟩, fun x H'' ⟨T, y, ex, hT, eH, hy⟩ => ?_⟩
      subst ex eH
      have := hy xs (.inl (.inl e))
      rw [ev] at this
      cases this
      refine ⟨ext_new hT, ?_⟩
      have nT : ¬ A' T := fun z => hA T z hT
      refine Dq.newT nT hT (.cons (.int _) (.cons ?_ .nil))
      rw [List.getD_eq_getElem?_getD, ed]
      exact hv
    · rw [List.getElem?_eq_none (by rw [List.length_range]; omega)] at hg
      cases hg
  · rw [List.length_map, h4.length]
    unfold enumD
    rw [List.length_map, List.length_range]
theorem ei_enumT {ce : Nat} (h : Ev m ce te Γ (D (.tuple ds))) : EvI m ce (iEnumT K (tCons te tNil)) Γ ((enumD ds).map isD) := fun σ H E R q => h σ H E _ fun v H' s o => by
  obtain ⟨a, xs, rfl, h1, h2, h3⟩ := Dq.tuple o
  exact ⟨a, xs, rfl, .inl (.inl h1), q _ _ s (walks_enumT o)⟩
end
end Lh

set_option Elab.async false
set_option linter.all false
set_option maxRecDepth 100000
set_option maxHeartbeats 2000000
/-! Draws: what is known only by a property. -/
namespace Lh
open PySem PySem.Spec PyProof.Rows L2 PySem.W
section
variable {m : Md} {k ce ca cb ci ct cu : Nat} {Γ : Gam} {te ta tb ti : TE} {tt : TT} {t : TA} {K : Frag} {d : PyData} {ds : List PyData}
/-- a number below n, drawn -/
abbrev Below (n : Int) : PyData → Prop := fun d => ∃ k : Int, d = .int k ∧ 0 ≤ k ∧ k < n
theorem ev_ixLU {n : Int} (h : Ev m ca te Γ (D (.list ds))) (hi : Ev m cb ti Γ (U (Below n))) (hn : n ≤ ds.length) : Ev m (ca + cb) (tOp (rIxL K) te ti) Γ (U (· ∈ ds)) :=
  ev_op h hi fun σ H E x y o1 o2 Q q => by
    obtain ⟨d, o2, k, rfl, h0, h1⟩ := o2
    obtain ⟨a, xs, rfl, g1, g2, g3⟩ := Dq.list o1
    cases Dq.is_int o2
    obtain ⟨j, rfl⟩ := Int.eq_ofNat_of_zero_le h0
    have hj : j < ds.length := by omega
    obtain ⟨v, ev, hv⟩ := g3.get (List.getElem?_eq_getElem hj)
    exact ⟨a, xs, (j : Nat), v, rfl, rfl, .inl (.inl g1), atI_nat ev, q v H Stp.refl ⟨_, hv, List.getElem_mem hj⟩⟩
theorem ev_ixTU {n : Int} (h : Ev m ca te Γ (D (.tuple ds))) (hi : Ev m cb ti Γ (U (Below n))) (hn : n ≤ ds.length) : Ev m (ca + cb) (tOp (rIxT K) te ti) Γ (U (· ∈ ds)) :=
  ev_op h hi fun σ H E x y o1 o2 Q q => by
    obtain ⟨d, o2, k, rfl, h0, h1⟩ := o2
    obtain ⟨a, xs, rfl, g1, g2, g3⟩ := Dq.tuple o1
    cases Dq.is_int o2
    obtain ⟨j, rfl⟩ := Int.eq_ofNat_of_zero_le h0
    have hj : j < ds.length := by omega
    obtain ⟨v, ev, hv⟩ := g3.get (List.getElem?_eq_getElem hj)
    exact ⟨a, xs, (j : Nat), v, rfl, rfl, .inl (.inl g1), atI_nat ev, q v H Stp.refl ⟨_, hv, List.getElem_mem hj⟩⟩
/-- an int operation on drawn ints -/
theorem ev_opU {f : Int → Int → V} {p q : Int → Prop} {P : PyData → Prop} (ha : Ev m ca ta Γ (U fun d => ∃ i, d = .int i ∧ p i)) (hb : Ev m cb tb Γ (U fun d => ∃ i, d = .int i ∧ q i)) (h : ∀ i j, p i → q j → ∃ d, Sc (f i j) d ∧ P d) : Ev m (ca + cb) (tOp (rI0 f) ta tb) Γ (U P) :=
  ev_op ha hb fun σ H E x y ⟨d1, o1, i, e1, hi⟩ ⟨d2, o2, j, e2, hj⟩ Q k => by
    subst e1 e2
    cases Dq.is_int o1
    cases Dq.is_int o2
    obtain ⟨d, sd, pd⟩ := h i j hi hj
    exact ⟨i, j, rfl, rfl, k _ H Stp.refl ⟨d, sd.dq, pd⟩⟩
theorem Ev.asU {i : Int} (h : Ev m ce te Γ (D (.int i))) : Ev m ce te Γ (U fun d => ∃ z, d = .int z ∧ z = i) := h.toP ⟨i, rfl, rfl⟩
/-- a display of one drawn thing -/
theorem ev_lst1U {P : PyData → Prop} (h : Ev m ce te Γ (U P)) : Ev m ce (tLst (tCons te tNil)) Γ (U fun d => ∃ x, d = .list [x] ∧ P x) := fun σ H E Q q =>
  h σ H E _ fun v H1 s ⟨x, o, px⟩ => ⟨by show 1 ≤ sizeLine; decide, fun p hp => q _ _ (s.trans (Stp.new hp)) ⟨.list [x], Dq.newL ((E.step (r := 0) s).free hp) hp (.cons o .nil), x, rfl, px⟩⟩
/-- tuple(..) of a drawn list -/
theorem ev_tupU {P : List PyData → Prop} (h : Ev m ce te Γ (U fun d => ∃ ds, d = .list ds ∧ P ds)) : Ev m ce (tCB (rTupS K) (tCons te tNil)) Γ (U fun d => ∃ ds, d = .tuple ds ∧ P ds) := fun σ H E Q q => h σ H E _ fun v H1 s ⟨d, o, ds, e, pd⟩ => by
  subst e
  obtain ⟨a, xs, rfl, h1, h2, h3⟩ := Dq.list o
  exact ⟨a, xs, rfl, .inl ⟨.inl (.inl h1), fun l hl => q _ _ (s.trans (Stp.new hl)) ⟨_, Dq.newT ((E.step (r := 0) s).free hl) hl h3, ds, rfl, pd⟩⟩⟩
end
end Lh

set_option Elab.async false
set_option linter.all false
set_option maxRecDepth 100000
set_option maxHeartbeats 2000000
/-! New lists, calls by keywords alone, isinstance. -/
namespace Lh
open PySem PySem.Spec PyProof.Rows L2 PySem.W
section
variable {X : Cx} {CX : CXT} {k : Nat} {f : Addr} {fd : FuncData} {ps ks : List Str} {sp : Sp} {E : XK} {x : Str} {p pos : Pos} {kws : List Keyword} {tk : TA}
/-- how a call by keywords alone binds: the parameters in their order are the keywords' values at π -/
def KB (K : Frag) (fd : FuncData) (ps ks : List Str) (π : List Nat) : Prop := ∀ (s : Shared) (ws : List Value), ws.length = π.length → BindsTo s fd ⟨[], ks.zip ws⟩ (ps.zip (π.map fun i => ws.getD i .none))
def pickV (π : List Nat) (zs : List V) : List V := π.map fun i => zs.getD i .non
theorem pick_vals {zs : List V} {ws : List Value} (r : Vals zs ws) : ∀ π : List Nat, Vals (pickV π zs) (π.map fun i => ws.getD i .none)
  | [] => .nil
  | i :: π => by
    refine .cons ?_ (pick_vals r π)
    show L2.RelV (zs.getD i .non) (ws.getD i .none)
    rw [List.getD_eq_getElem?_getD, List.getD_eq_getElem?_getD]
    cases e : zs[i]? with
    | none =>
      rw [r.none_of e]
      rfl
    | some z =>
      obtain ⟨u, e1, e2⟩ := r.get e
      rw [e1]
      exact e2
def tCallKw (sp : Sp) (π : List Nat) (E : XK) (tk : TA) : TE := fun σ H Q => tk σ H fun zs H1 => zs.length = π.length ∧ sp (pickV π zs) H1 Q E
theorem k_callKw {π : List Nat} (F : FnOk X.prog X.w X.K X.mg X.base CX k f fd ps sp) (hr : Room k X.A) (hg : Gl X x) (hm : X.mg x = some (.ref f)) (hk : PySem.W.keepIn X.K (.ref f) = true) (hb : KB X.K fd ps ks π) (hx : Passes CX X E) (hkw : PK X kws tk)
    (hall : (backToKw pos (keywordEach kws X.env)).all (·.1.isSome) = true := by rfl) (hks : (backToKw pos (keywordEach kws X.env)).filterMap (·.1) = ks := by rfl) (hdb : (x == ("__debug__" : Str)) = false := by decide)
    (hpl : ((backTo pos (starEach [] X.env)).any (·.1) || (backToKw pos (keywordEach kws X.env)).any (·.1.isNone)) = false := by rfl) : PE X (.Call (.Name x p) [] kws pos) (tCallKw sp π E tk) := by
  refine ⟨fun pins s σ H Q I h => ?_⟩
  refine wpAny_Call_Name_kw (ld_glob I hg hm ?_ hdb)
  refine PySem.W.callWith_KW0 (h₀ := X.base) I.ok.mod.kin hk hall ?_ hpl
  refine thn (hkw.run pos pins s σ H _ I h) fun ws s2 ⟨zs, H2, I2, rz, hl, q2⟩ => ⟨I2.kIn, ?_⟩
  rw [hks]
  refine wpAny_call (codeAny_mono (F.run X.A X.stack s2 H2 ⟨[], ks.zip ws⟩ (π.map fun i => ws.getD i .none) (pickV π zs) Q E hr I2.env0 (hb s2 ws (by rw [← rz.length]; exact hl)) (pick_vals rz π) q2) fun r s' hq => ?_)
  cases r with
  | error e => exact hx pins σ H2 s2 e s' I2 hq
  | ok fl =>
    cases fl with
    | ret u => exact I2.after hq
    | next => exact False.elim hq
    | brk => exact False.elim hq
    | cont => exact False.elim hq
end
section
variable {m : Md} {k r c ce ca cb ct cl : Nat} {Γ : Gam} {σ : L2.St} {H : Hp} {te ta tb : TE} {tt : TT} {t tk : TA} {K : Frag} {De : Ends} {d : PyData} {ds es fs : List PyData} {Ex : XK}
theorem pick_data {A : Addr → Prop} {H : Hp} {zs : List V} {es : List PyData} (h : DqA A H zs es) : ∀ π : List Nat, DqA A H (pickV π zs) (π.map fun i => es.getD i .none)
  | [] => .nil
  | i :: π => by
    refine .cons ?_ (pick_data h π)
    show Dq A H (zs.getD i .non) (es.getD i .none)
    rw [List.getD_eq_getElem?_getD, List.getD_eq_getElem?_getD]
    cases e : es[i]? with
    | none =>
      have : zs[i]? = none := List.getElem?_eq_none (by rw [h.length]; exact List.getElem?_eq_none_iff.mp e)
      rw [this]
      exact .non
    | some z =>
      obtain ⟨u, e1, e2⟩ := h.get e
      rw [e1]
      exact e2
theorem ev_callKw {rel : List PyData → PyData → Prop} {π : List Nat} (h : EvDs m cl tk Γ es) (hl : es.length = π.length) (hr : rel (π.map fun i => es.getD i .none) d) : Ev m cl (tCallKw (spD rel) π Ex tk) Γ (D d) := fun σ H E Q q =>
  h σ H E _ fun zs H1 s o => ⟨by rw [o.length, List.length_map]; exact hl, m.A, _, d, pick_data o.data π, (E.step (r := 0) s).trk, hr, fun v H2 k od => q v H2 (s.trans (Stp.ext k)) od⟩
/-- a new list comes -/
def EvN (m : Md) (c : Nat) (te : TE) (Γ : Gam) (es : List PyData) : Prop := ∀ σ H, Env m c Γ σ H → ∀ Q : VK, (∀ p xs H1 H2, Stp m c H H1 → (∀ a o, H1 a = some o → H2 a = some o) → H1 p = none → H2 p = some (.lst xs) → DqA (fun a => m.A a ∨ a = p) H2 xs es → Q (.ref p) H2) → te σ H Q
theorem en_call {rel : List PyData → List PyData → Prop} (h : EvDs m cl t Γ ds) (hr : rel ds es) : EvN m cl (tCall (spL rel) [] Ex t) Γ es := fun σ H E Q q =>
  h σ H E _ fun vs H1 s o => ⟨m.A, ds, es, by rw [List.append_nil]; exact o.data, (E.step (r := 0) s).trk, hr, fun p xs H2 k hn hp ha => q p xs H1 H2 s k hn hp ha⟩
theorem en_callKw {rel : List PyData → List PyData → Prop} {π : List Nat} (h : EvDs m cl tk Γ fs) (hl : fs.length = π.length) (hr : rel (π.map fun i => fs.getD i .none) es) : EvN m cl (tCallKw (spL rel) π Ex tk) Γ es := fun σ H E Q q =>
  h σ H E _ fun zs H1 s o => ⟨by rw [o.length, List.length_map]; exact hl, m.A, _, es, pick_data o.data π, (E.step (r := 0) s).trk, hr, fun p xs H2 k hn hp ha => q p xs H1 H2 s k hn hp ha⟩
theorem en_if {P : Bool → Prop} (h : EvT m ct tt Γ P) (ha : P true → EvN m ca ta Γ es) (hb : P false → EvN m cb tb Γ es) : EvN m (ct + ca + cb) (tIf tt ta tb) Γ es := fun σ H E Q q =>
  h σ H E.le _ fun b H1 s1 p => by
    cases b with
    | true =>
      show ta σ H1 Q
      exact ha p σ H1 (E.step s1) Q fun p xs H2 H3 s2 => q p xs H2 H3 (s1.trans s2).le
    | false =>
      show tb σ H1 Q
      exact hb p σ H1 (E.step s1) Q fun p xs H2 H3 s2 => q p xs H2 H3 (s1.trans s2).le
/-- .. that will change -/
theorem go_boxN {i : Nat} (E : Env m k Γ σ H) (hs : m.Spend k c r) (h : EvN m c te Γ es)
    (q : ∀ p σ' H', NoBox p Γ → ¬ m.A p → ¬ m.M p → Env (m.add p) r (Γ.set i (some (.box p (bL es)))) σ' H' → De.nx σ' H') : tAsg te (gName i) De σ H :=
  h σ H (E.lend hs) _ fun p xs H1 H2 s kk hn hp ha => by
    have E1 := E.pay s hs
    have hn' : ¬ m.A p := E1.free hn
    have hM : ¬ m.M p := E1.freeM hn
    have h0 : m.H0 p = none := E1.free0 hn
    have E2 : Env m r Γ σ H2 := E1.step (Stp.ext kk)
    have nb : NoBox p Γ := E1.noBox hn
    have tt : To m.A H1 (m.add p).A H2 := fun a o e n => ⟨kk a o e, fun z => z.elim n (ne_of_none e hn)⟩
    have E3 : Env (m.add p) r Γ σ H2 := by
      refine ⟨E2.inv, E2.fr, fun a ha => .inl (E2.sub a ha), fun a ha => ?_, fun x hx => x.2.mono tt (E1.ex x hx), E2.len, fun i g e => ?_⟩
      · rcases ha with ha | rfl
        · exact E2.trk a ha
        · rw [hp]; exact fun z => nomatch z
      · obtain ⟨v, h1, h2⟩ := E1.sl i g e
        refine ⟨v, h1, ?_⟩
        cases g with
        | im f => exact f.mono tt h2
        | box q b =>
          obtain ⟨e1, h3, h4, h5, u, h6, h7⟩ := h2
          exact ⟨e1, .inl h3, h4, h5, u, kk q u h6, b.mono tt h7⟩
    exact q p _ _ nb hn' hM (E3.set ⟨rfl, .inr rfl, hM, h0, _, hp, xs, rfl, ha⟩)
/-- isinstance(x, T), T a built-in type -/
theorem ev_isi {n : String} {b : Bool} {g : Ag} (h : Ev m ce te Γ g) (hk : ∀ H v, g.on m H v → ∃ t, TyX K H v t ∧ PySem.W.kitOne K t (.type n) = some b) : Ev m (ce + 0) (tCB (rIsi K) (tCons te (tCons (tC (.ty n)) tNil))) Γ (D (.bool b)) := fun σ H E Q q =>
  h σ H E.le _ fun v H1 s o => by
    obtain ⟨t, h1, h2⟩ := hk H1 v o
    exact ⟨v, .ty n, t, .type n, b, rfl, .ty n, h1, h2, q _ _ s (.bl b)⟩
end
end Lh

set_option Elab.async false
set_option linter.all false
set_option maxRecDepth 100000
set_option maxHeartbeats 4000000
/-! A box read as data; a box left behind. -/
namespace Lh
open PySem PySem.Spec PyProof.Rows L2 PySem.W
section
variable {m : Md} {k r c : Nat} {Γ : Gam} {σ : L2.St} {H H' : Hp} {p : Addr} {ds : List PyData} {g : Ag}
theorem Env.shrink {A' : Addr → Prop} (E : Env m k Γ σ H) (hA : ∀ a, A' a → m.A a) (hM : ∀ a, m.M a → A' a) (hB : ∀ (i : Nat) (q : Addr) (b : Bx), Γ[i]? = some (some (Ag.box q b)) → A' q) : Env { m with A := A' } k Γ σ H := by
  have t : To m.A H A' H := fun a o h n => ⟨h, fun z => n (hA a z)⟩
  refine ⟨E.inv, E.fr, hM, fun a h => E.trk a (hA a h), fun x hx => x.2.mono t (E.ex x hx), E.len, fun i g e => ?_⟩
  obtain ⟨v, h1, h2⟩ := E.sl i g e
  refine ⟨v, h1, ?_⟩
  cases g with
  | im f => exact f.mono t h2
  | box q b =>
    obtain ⟨e1, _, h3, h4, o, h5, h6⟩ := h2
    exact ⟨e1, hB i q b e, h3, h4, o, h5, b.mono t h6⟩
/-- slots forgotten -/
theorem Env.less {Γ' : Gam} (E : Env m k Γ σ H) (hl : Γ'.length = Γ.length) (h : ∀ (i : Nat) (g : Ag), Γ'[i]? = some (some g) → Γ[i]? = some (some g)) : Env m k Γ' σ H :=
  ⟨E.inv, E.fr, E.sub, E.trk, E.ex, by rw [hl]; exact E.len, fun i g e => E.sl i g (h i g e)⟩
theorem get_set_none {Γ : Gam} {i j : Nat} {g : Ag} (h : (Γ.set i none)[j]? = some (some g)) : Γ[j]? = some (some g) ∧ j ≠ i := by
  rw [List.getElem?_set] at h
  split at h
  · split at h <;> cases h
  · exact ⟨h, fun e => by simp_all⟩
/-- a box made within is left behind -/
theorem Env.unadd (E : Env (m.add p) k Γ σ H) (hM : ∀ a, m.M a → m.A a) (hB : NoBox p Γ) : Env m k Γ σ H :=
  E.shrink (A' := m.A) (fun a h => .inl h) hM fun i q b e => by
    obtain ⟨v, _, _, h, _⟩ := E.sl i _ e
    rcases h with h | h
    · exact h
    · exact absurd h (hB i q b e)
def Md.sub (m : Md) (p : Addr) : Md := { m with A := fun a => m.A a ∧ a ≠ p }
/-- the box as data -/
theorem Env.read {i : Nat} (E : Env m k Γ σ H) (hi : Γ[i]? = some (some (.box p (bL ds)))) (hb : NoBox p (Γ.set i none)) : Env (m.sub p) k (Γ.set i (some (D (.list ds)))) σ H := by
  obtain ⟨v, hv, rfl, hAp, hMp, _, o, ho, xs, rfl, hx⟩ := E.sl i _ hi
  have E1 : Env m k (Γ.set i none) σ H := E.less (by rw [List.length_set]) fun j g e => (get_set_none e).1
  have E2 : Env (m.sub p) k (Γ.set i none) σ H := E1.shrink (A' := fun a => m.A a ∧ a ≠ p) (fun a h => h.1) (fun a h => ⟨E.sub a h, fun e => hMp (e ▸ h)⟩) fun j q b e => by
    obtain ⟨v, _, _, h, _⟩ := E1.sl j _ e
    exact ⟨h, hb j q b e⟩
  refine ⟨E2.inv, E2.fr, E2.sub, E2.trk, E2.ex, by rw [List.length_set]; exact E.len, fun j g e => ?_⟩
  by_cases hj : j = i
  · subst hj
    rw [List.getElem?_set] at e
    split at e
    · split at e
      · cases e
        refine ⟨_, hv, ?_⟩
        show Dq (fun a => m.A a ∧ a ≠ p) H (.ref p) (.list ds)
        exact .lst ho (fun z => z.2 rfl) (hx.to fun a o h n => ⟨h, fun z => n z.1⟩)
      · cases e
    · exact absurd rfl (by assumption)
  · have e' : (Γ.set i none)[j]? = some (some g) := by
      rw [List.getElem?_set_ne (fun z => hj z.symm)] at e ⊢
      exact e
    exact E2.sl j g e'
theorem EvT.read {i : Nat} {tt : TT} {P : Bool → Prop} (hi : Γ[i]? = some (some (.box p (bL ds)))) (hb : NoBox p (Γ.set i none)) (h : EvT (m.sub p) c tt (Γ.set i (some (D (.list ds)))) P) : EvT m c tt Γ P :=
  fun σ H E Q q => h σ H (E.read hi hb) Q fun b H' s pb => q b H' ⟨s.kp, s.inv⟩ pb
end
section
variable {X : Cx}
theorem k_isi (K : Frag) (hK : X.K = K := by rfl) : CallR X (.builtin "isinstance") (rIsi K) := hK ▸ call_isi
theorem k_tyN (n : String) {x : Str} {pos : Pos} (hg : Gl X x) (hm : X.mg x = none) (hv : bootBuiltins x = some (.type n)) (hn : x ≠ "__name__" := by decide) (hd : (x == ("__debug__" : Str)) = false := by decide) : PE X (.Name x pos) (tC (.ty n)) := pe_bltn hg hm hv rfl hn hd
end
section
variable {m : Md} {c ce : Nat} {Γ : Gam} {te : TE} {K : Frag} {ds : List PyData}
theorem ev_isiL (h : Ev m ce te Γ (D (.list ds))) : Ev m (ce + 0) (tCB (rIsi K) (tCons te (tCons (tC (.ty "list")) tNil))) Γ (D (.bool true)) := ev_isi h fun H v o => by
  have o' : Dq m.A H v (.list ds) := o
  cases o' with
  | lst e _ _ => exact ⟨.type "list", .base (.lst e), by rfl⟩
theorem ev_isiT (h : Ev m ce te Γ (D (.tuple ds))) : Ev m (ce + 0) (tCB (rIsi K) (tCons te (tCons (tC (.ty "tuple")) tNil))) Γ (D (.bool true)) := ev_isi h fun H v o => by
  have o' : Dq m.A H v (.tuple ds) := o
  cases o' with
  | tup e _ _ => exact ⟨.type "tuple", .base (.tup e), by rfl⟩
end
end Lh

set_option Elab.async false
set_option linter.all false
set_option maxRecDepth 100000
set_option maxHeartbeats 2000000
/-! Cells, what hangs together, the pieces. -/
namespace Pc
open PySem PySem.W Lh
abbrev Cell := Int × Int
theorem cl_lt (a b : Cell) : DatumOrd.lt a b = true ↔ a.1 < b.1 ∨ (a.1 = b.1 ∧ a.2 < b.2) := by
  obtain ⟨a1, a2⟩ := a
  obtain ⟨b1, b2⟩ := b
  show (if a1 = b1 then decide (a2 < b2) else decide (a1 < b1)) = true ↔ _
  split
  · rw [decide_eq_true_iff]
    simp only
    omega
  · rw [decide_eq_true_iff]
    simp only
    omega
def Ris (S : List Cell) : Prop := S.Pairwise fun a b => DatumOrd.lt a b = true
theorem cl_irr (a : Cell) : ¬ DatumOrd.lt a a = true := by
  rw [cl_lt]
  omega
theorem cl_trans {a b c : Cell} (h : DatumOrd.lt a b = true) (k : DatumOrd.lt b c = true) : DatumOrd.lt a c = true := by
  rw [cl_lt] at *
  omega
theorem cl_tri {a b : Cell} (h : ¬ DatumOrd.lt a b = true) (k : ¬ DatumOrd.lt b a = true) : a = b := by
  rw [cl_lt] at *
  obtain ⟨a1, a2⟩ := a
  obtain ⟨b1, b2⟩ := b
  simp only at *
  have : a1 = b1 := by omega
  have : a2 = b2 := by omega
  subst_vars
  rfl
theorem Ris.nodup {S : List Cell} (h : Ris S) : S.Nodup := h.imp fun k e => by
  subst e
  exact cl_irr _ k
theorem Ris.filter {S : List Cell} (h : Ris S) (p : Cell → Bool) : Ris (S.filter p) := List.Pairwise.filter p h
/-- two rising lists of the same members are one -/
theorem ris_eq : ∀ {S R : List Cell}, Ris S → Ris R → (∀ x, x ∈ S ↔ x ∈ R) → S = R
  | [], [], _, _, _ => rfl
  | [], r :: R, _, _, h => absurd ((h r).mpr List.mem_cons_self) (by simp)
  | s :: S, [], _, _, h => absurd ((h s).mp List.mem_cons_self) (by simp)
  | s :: S, r :: R, hs, hr, h => by
    obtain ⟨s1, s2⟩ := List.pairwise_cons.mp hs
    obtain ⟨r1, r2⟩ := List.pairwise_cons.mp hr
    have e : s = r := by
      refine cl_tri (fun k => ?_) (fun k => ?_)
      · rcases List.mem_cons.mp ((h s).mp List.mem_cons_self) with e | m
        · subst e; exact cl_irr _ k
        · exact cl_irr _ (cl_trans k (r1 s m))
      · rcases List.mem_cons.mp ((h r).mpr List.mem_cons_self) with e | m
        · subst e; exact cl_irr _ k
        · exact cl_irr _ (cl_trans k (s1 r m))
    subst e
    congr 1
    refine ris_eq s2 r2 fun x => ⟨fun m => ?_, fun m => ?_⟩
    · rcases List.mem_cons.mp ((h x).mp (List.mem_cons_of_mem _ m)) with e | q
      · subst e; exact absurd (s1 _ m) (cl_irr _)
      · exact q
    · rcases List.mem_cons.mp ((h x).mpr (List.mem_cons_of_mem _ m)) with e | q
      · subst e; exact absurd (r1 _ m) (cl_irr _)
      · exact q
theorem leX_cl (a b : Cell) : leX a b = true ↔ ¬ DatumOrd.lt b a = true := by
  unfold leX
  cases DatumOrd.lt b a <;> simp
theorem leX_trans (a b c : Cell) (h : leX a b = true) (k : leX b c = true) : leX a c = true := by
  rw [leX_cl, cl_lt] at *
  omega
theorem leX_total (a b : Cell) : (leX a b || leX b a) = true := by
  rw [Bool.or_eq_true, leX_cl, leX_cl, cl_lt, cl_lt]
  omega
theorem sort_ris {S : List Cell} (h : S.Nodup) : Ris (S.mergeSort leX) := by
  have h1 : (S.mergeSort leX).Pairwise fun a b => leX a b = true := List.pairwise_mergeSort leX_trans leX_total S
  have h2 : (S.mergeSort leX).Nodup := (List.mergeSort_perm S leX).nodup_iff.mpr h
  refine (h1.and h2).imp fun {a b} ⟨k1, k2⟩ => ?_
  rw [leX_cl] at k1
  cases e : DatumOrd.lt a b with
  | true => rfl
  | false => exact absurd (cl_tri (by rw [e]; exact Bool.false_ne_true) k1) k2
theorem sort_eq {S R : List Cell} (hn : S.Nodup) (hr : Ris R) (h : ∀ x, x ∈ S ↔ x ∈ R) : S.mergeSort leX = R :=
  ris_eq (sort_ris hn) hr fun x => by rw [List.mem_mergeSort]; exact h x

/-! ### what hangs together -/
def nbs (c : Cell) : List Cell := [(c.1 - 1, c.2), (c.1 + 1, c.2), (c.1, c.2 - 1), (c.1, c.2 + 1)]
theorem nbs_symm {a b : Cell} (h : b ∈ nbs a) : a ∈ nbs b := by
  obtain ⟨a1, a2⟩ := a
  obtain ⟨b1, b2⟩ := b
  simp only [nbs, List.mem_cons, List.not_mem_nil, or_false, Prod.mk.injEq] at *
  omega
inductive Rch (S : List Cell) (s : Cell) : Cell → Prop
  | refl : s ∈ S → Rch S s s
  | step {a b : Cell} : Rch S s a → b ∈ nbs a → b ∈ S → Rch S s b
theorem Rch.mem {S : List Cell} {s a : Cell} (h : Rch S s a) : a ∈ S := by
  cases h with
  | refl h => exact h
  | step _ _ h => exact h
theorem Rch.from {S : List Cell} {s a : Cell} (h : Rch S s a) : s ∈ S := by
  induction h with
  | refl h => exact h
  | step _ _ _ ih => exact ih
theorem Rch.trans {S : List Cell} {a b c : Cell} (h : Rch S a b) (k : Rch S b c) : Rch S a c := by
  induction k with
  | refl _ => exact h
  | step _ hn hm ih => exact ih.step hn hm
theorem Rch.symm {S : List Cell} {a b : Cell} (h : Rch S a b) : Rch S b a := by
  induction h with
  | refl h => exact .refl h
  | step h1 hn hm ih => exact (Rch.step (.refl hm) (nbs_symm hn) h1.mem).trans ih
theorem Rch.sub {S R : List Cell} {a b : Cell} (k : ∀ x, Rch S a x → x ∈ R) (h : Rch S a b) : Rch R a b := by
  induction h with
  | refl h => exact .refl (k _ (.refl h))
  | step h1 hn hm ih => exact ih.step hn (k _ (h1.step hn hm))
open Classical in
noncomputable def rb (S : List Cell) (s x : Cell) : Bool := decide (Rch S s x)
open Classical in
theorem rb_iff {S : List Cell} {s x : Cell} : rb S s x = true ↔ Rch S s x := by
  unfold rb
  exact ⟨of_decide_eq_true, decide_eq_true⟩
/-- all that one comes to from s -/
noncomputable def comp (S : List Cell) (s : Cell) : List Cell := S.filter (rb S s)
theorem mem_comp {S : List Cell} {s x : Cell} : x ∈ comp S s ↔ Rch S s x := by
  unfold comp
  rw [List.mem_filter]
  exact ⟨fun h => rb_iff.mp h.2, fun h => ⟨h.mem, rb_iff.mpr h⟩⟩
theorem comp_ris {S : List Cell} {s : Cell} (h : Ris S) : Ris (comp S s) := h.filter _

/-! ### the search: found, waiting -/
structure FInv (S : List Cell) (s : Cell) (f w : List Cell) : Prop where
  nd : f.Nodup
  wn : w.Nodup
  sub : ∀ x ∈ f, Rch S s x
  st : s ∈ f
  wf : ∀ x ∈ w, x ∈ f
  cl : ∀ x ∈ f, x ∉ w → ∀ y ∈ nbs x, y ∈ S → y ∈ f
/-- one neighbour looked at -/
def look (S : List Cell) (fw : List Cell × List Cell) (x : Cell) : List Cell × List Cell := if mem x S && !mem x fw.1 then (fw.1 ++ [x], fw.2 ++ [x]) else fw
theorem nodup_le {α : Type} [DecidableEq α] : ∀ {l m : List α}, l.Nodup → (∀ x ∈ l, x ∈ m) → l.length ≤ m.length
  | [], _, _, _ => Nat.zero_le _
  | x :: l, m, hn, hs => by
    obtain ⟨h1, h2⟩ := List.nodup_cons.mp hn
    have hx : x ∈ m := hs x List.mem_cons_self
    have := nodup_le (l := l) (m := m.erase x) h2 fun y hy => (List.mem_erase_of_ne (fun e => h1 (by rw [← e]; exact hy))).mpr (hs y (List.mem_cons_of_mem _ hy))
    rw [List.length_erase_of_mem hx] at this
    have : 0 < m.length := List.length_pos_of_mem hx
    rw [List.length_cons]
    omega
theorem FInv.len {S : List Cell} {s : Cell} {f w : List Cell} (h : FInv S s f w) : f.length ≤ S.length :=
  nodup_le h.nd fun x hx => (h.sub x hx).mem
theorem FInv.wlen {S : List Cell} {s : Cell} {f w : List Cell} (h : FInv S s f w) : w.length ≤ f.length := nodup_le h.wn h.wf
theorem FInv.start {S : List Cell} {s : Cell} (h : s ∈ S) : FInv S s [s] [s] :=
  ⟨List.pairwise_singleton _ s, List.pairwise_singleton _ s, fun x hx => by rw [List.mem_singleton.mp hx]; exact .refl h, List.mem_singleton_self s, fun x hx => hx, fun x hx hn => absurd hx hn⟩
/-- while the neighbours of c are looked at: those of the first k are seen to -/
structure GInv (S : List Cell) (s c : Cell) (k : Nat) (f w : List Cell) : Prop where
  nd : f.Nodup
  wn : w.Nodup
  sub : ∀ x ∈ f, Rch S s x
  st : s ∈ f
  wf : ∀ x ∈ w, x ∈ f
  cf : c ∈ f
  cl : ∀ x ∈ f, x ∉ w → x ≠ c → ∀ y ∈ nbs x, y ∈ S → y ∈ f
  cc : ∀ y ∈ (nbs c).take k, y ∈ S → y ∈ f
theorem FInv.pop {S : List Cell} {s c : Cell} {f w : List Cell} (h : FInv S s f (w ++ [c])) : GInv S s c 0 f w :=
  ⟨h.nd, (List.nodup_append.mp h.wn).1, h.sub, h.st, fun x hx => h.wf x (List.mem_append_left _ hx), h.wf c (List.mem_append_right _ (List.mem_singleton_self c)), fun x hx hn hc => h.cl x hx fun m => by
    rcases List.mem_append.mp m with m | m
    · exact hn m
    · exact hc (List.mem_singleton.mp m), fun y hy => by simp at hy⟩
theorem GInv.look {S : List Cell} {s c x : Cell} {k : Nat} {f w : List Cell} (h : GInv S s c k f w) (hx : (nbs c)[k]? = some x) : GInv S s c (k + 1) (Pc.look S (f, w) x).1 (Pc.look S (f, w) x).2 := by
  have et : (nbs c).take (k + 1) = (nbs c).take k ++ [x] := by rw [List.take_add_one, hx]; rfl
  have hn : x ∈ nbs c := List.mem_of_getElem? hx
  unfold Pc.look
  split
  · rename_i hc
    rw [Bool.and_eq_true, mem_iff, Bool.not_eq_true', mem_no] at hc
    obtain ⟨h1, h2⟩ := hc
    have hx' : Rch S s x := (h.sub c h.cf).step hn h1
    refine ⟨?_, ?_, ?_, List.mem_append_left _ h.st, ?_, List.mem_append_left _ h.cf, ?_, ?_⟩
    · exact List.nodup_append.mpr ⟨h.nd, List.pairwise_singleton _ x, fun a ha b hb e => h2 (by rw [← List.mem_singleton.mp hb, ← e]; exact ha)⟩
    · exact List.nodup_append.mpr ⟨h.wn, List.pairwise_singleton _ x, fun a ha b hb e => h2 (by rw [← List.mem_singleton.mp hb, ← e]; exact h.wf a ha)⟩
    · intro y hy
      rcases List.mem_append.mp hy with m | m
      · exact h.sub y m
      · rw [List.mem_singleton.mp m]; exact hx'
    · intro y hy
      rcases List.mem_append.mp hy with m | m
      · exact List.mem_append_left _ (h.wf y m)
      · exact List.mem_append_right _ m
    · intro y hy hw hc z hz hS
      rcases List.mem_append.mp hy with m | m
      · exact List.mem_append_left _ (h.cl y m (fun q => hw (List.mem_append_left _ q)) hc z hz hS)
      · exact absurd (List.mem_append_right w m) hw
    · intro y hy hS
      rw [et] at hy
      rcases List.mem_append.mp hy with m | m
      · exact List.mem_append_left _ (h.cc y m hS)
      · exact List.mem_append_right _ m
  · rename_i hc
    refine ⟨h.nd, h.wn, h.sub, h.st, h.wf, h.cf, h.cl, fun y hy hS => ?_⟩
    rw [et] at hy
    rcases List.mem_append.mp hy with m | m
    · exact h.cc y m hS
    · rw [List.mem_singleton.mp m] at hS ⊢
      rw [Bool.and_eq_true, mem_iff, Bool.not_eq_true', mem_no] at hc
      exact Classical.byContradiction fun q => hc ⟨hS, q⟩
theorem look_len {S : List Cell} {f w : List Cell} {x : Cell} {a : Int} (h : (w.length : Int) - f.length = a) : ((look S (f, w) x).2.length : Int) - (look S (f, w) x).1.length = a := by
  unfold look
  split
  · show (((w ++ [x]).length : Nat) : Int) - ((f ++ [x]).length : Nat) = a
    rw [List.length_append, List.length_append]
    have : ([x] : List Cell).length = 1 := rfl
    omega
  · exact h
theorem look_le {S : List Cell} {f w : List Cell} {x : Cell} : f.length ≤ (look S (f, w) x).1.length := by
  unfold look
  split
  · show f.length ≤ (f ++ [x]).length
    rw [List.length_append]; omega
  · exact Nat.le_refl _
theorem GInv.done {S : List Cell} {s c : Cell} {f w : List Cell} (h : GInv S s c 4 f w) : FInv S s f w :=
  ⟨h.nd, h.wn, h.sub, h.st, h.wf, fun x hx hw => by
    by_cases e : x = c
    · subst e
      exact h.cc
    · exact h.cl x hx hw e⟩
theorem FInv.all {S : List Cell} {s : Cell} {f : List Cell} (h : FInv S s f []) (x : Cell) : x ∈ f ↔ x ∈ comp S s := by
  rw [mem_comp]
  refine ⟨h.sub x, fun k => ?_⟩
  induction k with
  | refl _ => exact h.st
  | step _ hn hm ih => exact h.cl _ ih (by simp) _ hn hm
end Pc

set_option Elab.async false
set_option linter.all false
set_option maxRecDepth 100000
set_option maxHeartbeats 2000000
namespace K03
open PySem PySem.Spec PyProof.Rows L2 PySem.W Lh
def topS (i : Nat) : Stmt := PySem.Challenge.pw_lothouse_k03_pieces_and_cells.main.body.getD i (.Pass ⟨0, 0, 0, 0⟩)
abbrev Cell := Int × Int
/-- what the names of built-ins are -/
structure Tb (mg : Str → Option Value) : Prop where
  z_len : mg "len" = none
  z_list : mg "list" = none
  z_tuple : mg "tuple" = none
  z_sorted : mg "sorted" = none
  z_range : mg "range" = none
  z_dict : mg "dict" = none
  z_set : mg "set" = none
  z_enumerate : mg "enumerate" = none
  z_isinstance : mg "isinstance" = none
/-- a def of the text -/
structure Own (K : Frag) (mg : Str → Option Value) (x : Str) (st : Stmt) (f : Addr) (fd : FuncData) (ps : List Str) : Prop where
  F : Fun K x x st f fd
  g : mg x = some (.ref f)
  b : Binds K fd ps []
section
variable {P : Program} {w : World} {K : Frag} {mg : Str → Option Value} {base : Heap}
abbrev s_less : Stmt := topS 4
abbrev N_less : List Str := ["one", "other", "cell"]
theorem sc_less : FnScope N_less ["one", "other"] (defScope s_less) := ⟨rfl, rfl, rfl, by decide +kernel, rfl, by decide +kernel, by decide +kernel⟩
def R_less (ds : List PyData) (d : PyData) : Prop := ∃ c1 c2 : List Cell, c1.length ≤ sizeLine ∧ ds = [Datum.toD (Tup.mk c1), Datum.toD (Tup.mk c2)] ∧ d = Datum.toD (Tup.mk (c1.filter fun x => !mem x c2))
theorem ok_less {f : Addr} {fd : FuncData} (T : Tb mg) (O : Own K mg "less" s_less f fd ["one", "other"]) : FnOk P w K mg base CX0 1 f fd ["one", "other"] (spD R_less) := by
  have nd := sc_less.nd
  refine O.F.ok sc_less (fun vs H Q E h => ?_) (fun cdv A outer s H vs Q E hr h => ?_)
  · obtain ⟨A, ds, d, hd, _, ⟨c1, c2, _, rfl, _⟩, _⟩ := h
    exact hd.length
  · obtain ⟨A, ds, d, hd, ht, ⟨c1, c2, hz, rfl, rfl⟩, q⟩ := h
    have hu := hu_of hr
    refine ⟨_, (pss_one (ps_ret (pe_callTy (k_tuple K) (by rfl) T.z_tuple (by decide +kernel) (pa_cons (pe_lc (own := [("cell", 2)]) (g := gName 2) (tt := _) (by rfl) nd (k_forT K (pv 0)) (blkOk_by (own := [("cell", 2)]) (N := N_less) (sc := defScope s_less) (by decide +kernel)) (fun _ _ _ _ _ => (pg_name (i := 2) nd rfl (Or.inl rfl))) (fun _ _ _ _ _ => (pts_one (pt_cmpR (k_notIn K hr.units) (pv 2) (pv 1) (by rfl)))) (fun _ _ _ _ _ => (pv 2))) pa_nil)))), ?_⟩
    have E0 := env_start (N := N_less) hd ht
    refine go_ret E0 fr (ev_tupJL (ev_lcJ (fun x => !mem x c2) id (ei_tup (ev_var rfl)) hz (by decide) fun Dp x hx => ⟨et_test (ev_notInT (x := x) (xs := c2) (ev_var rfl) (ev_var rfl)), fun _ => ev_var rfl⟩)) ?_
    · intro v H' s E' o
      rw [List.map_id] at o
      exact ret_D rfl (fun _ h => h) (fun _ h => h) q E' o
end
end K03

set_option Elab.async false
set_option linter.all false
set_option maxRecDepth 100000
set_option maxHeartbeats 4000000
namespace K03
open PySem PySem.Spec PyProof.Rows L2 PySem.W Lh Pc
/-- evaluation, part by part -/
local macro_rules | `(tactic| walk_at "ev") => `(tactic| first
  | exact ev_var rfl
  | exact ev_c (Sc.int _)
  | exact ev_c (Sc.str _)
  | exact ev_c (Sc.bl _)
  | exact ev_c Sc.non
  | exact evd_nil
  | (apply evd_cons <;> walk_at "ev")
  | (apply ev_tup' (hl := Nat.le_of_ble_eq_true rfl) <;> walk_at "ev")
  | (apply ev_lst' (hl := Nat.le_of_ble_eq_true rfl) <;> walk_at "ev")
  | (apply ev_opI0 (hd := Sc.int _) <;> walk_at "ev")
  | (apply ev_opI0 (hd := Sc.bl _) <;> walk_at "ev")
  | (apply ev_lenJB <;> walk_at "ev"))
local macro_rules | `(tactic| walk_at "nx") => `(tactic| first | with_reducible refine nxs ?_ | with_reducible refine seq ?_ | with_reducible refine nx1 ?_ | with_reducible refine nx0 ?_)
section
variable {P : Program} {w : World} {K : Frag} {mg : Str → Option Value} {base : Heap}
abbrev s_piece_from : Stmt := topS 1
abbrev N_piece_from : List Str := ["start", "cells", "found", "waiting", "i", "j", "cell"]
theorem sc_piece_from : FnScope N_piece_from ["start", "cells"] (defScope s_piece_from) := ⟨rfl, rfl, rfl, by decide +kernel, rfl, by decide +kernel, by decide +kernel⟩
def R_piece_from (ds : List PyData) (d : PyData) : Prop := ∃ (s : Cell) (S : List Cell), Ris S ∧ S.length ≤ 100000 ∧ s ∈ S ∧ ds = [Datum.toD s, Datum.toD (Tup.mk S)] ∧ d = Datum.toD (Tup.mk (comp S s))
theorem ok_piece_from {f : Addr} {fd : FuncData} (T : Tb mg) (O : Own K mg "_piece_from" s_piece_from f fd ["start", "cells"]) : FnOk P w K mg base CX0 1 f fd ["start", "cells"] (spD R_piece_from) := by
  have nd := sc_piece_from.nd
  refine O.F.ok sc_piece_from (fun vs H Q E h => ?_) (fun cdv A outer s H vs Q E hr h => ?_)
  · obtain ⟨A, ds, d, hd, _, ⟨s, S, _, _, _, rfl, _⟩, _⟩ := h
    exact hd.length
  · obtain ⟨A, ds, d, hd, ht, ⟨s, S, hS, hz, hs, rfl, rfl⟩, q⟩ := h
    have hu := hu_of hr
    refine ⟨_, (pss_cons (ps_set (i := 2) nd rfl (Or.inl rfl) (pe_lst (pa_cons (pv 0) pa_nil)))
      (pss_cons (ps_set (i := 3) nd rfl (Or.inl rfl) (pe_lst (pa_cons (pv 0) pa_nil)))
      (pss_cons (ps_while PassesOwn.never (pt_cmpR op_gt (pe_callB (k_len K) (by rfl) T.z_len (by decide +kernel) (pa_cons (pv 3) pa_nil)) pe_int (nomark _))
      (pss_cons (ps_asg (k_bm0 K PySem.F.plainAttrs_list PySem.F.slot_list_pop PySem.F.type_list_pop mt_pop (pv 3)) (k_tg K rfl (pgs_cons (pg_name (i := 4) nd rfl (Or.inl rfl)) (pgs_cons (pg_name (i := 5) nd rfl (Or.inl rfl)) pgs_nil))))
      (pss_one (ps_for PassesOwn.never rfl (k_forT K (pe_tup (pa_cons (pe_tup (pa_cons (pe_op op_sub (pv 4) pe_int) (pa_cons (pv 5) pa_nil))) (pa_cons (pe_tup (pa_cons (pe_op op_add (pv 4) pe_int) (pa_cons (pv 5) pa_nil))) (pa_cons (pe_tup (pa_cons (pv 4) (pa_cons (pe_op op_sub (pv 5) pe_int) pa_nil))) (pa_cons (pe_tup (pa_cons (pv 4) (pa_cons (pe_op op_add (pv 5) pe_int) pa_nil))) pa_nil)))))) (pg_name (i := 6) nd rfl (Or.inl rfl))
      (pss_one (ps_if (PW.pt (pw_and (pt_cmpR (k_in K hr.units) (pv 6) (pv 1) (by rfl)) (pw_and1 (pt_cmpR (k_notIn K hr.units) (pv 6) (pv 2) (by rfl)))))
      (pss_cons (ps_expr (k_bm K PySem.F.plainAttrs_list PySem.F.slot_list_append PySem.F.type_list_append mt_append (pv 2) (pa_cons (pv 6) pa_nil)))
      (pss_one (ps_expr (k_bm K PySem.F.plainAttrs_list PySem.F.slot_list_append PySem.F.type_list_append mt_append (pv 3) (pa_cons (pv 6) pa_nil))))) pss_nil))))))
      (pss_one (ps_ret (pe_callTy (k_tuple K) (by rfl) T.z_tuple (by decide +kernel) (pa_cons (pe_callB (k_sorted K hr.units) (by rfl) T.z_sorted (by decide +kernel) (pa_cons (pv 2) pa_nil)) pa_nil))))))), ?_⟩
    have E0 := env_start (N := N_piece_from) hd ht
    -- found = [start]; waiting = [start]
    walk_at "nx"
    refine go_box0 (ds := [Datum.toD s]) E0 ?_ (Nat.le_of_ble_eq_true rfl) fun p σ1 H1 nb1 nA1 nM1 E1 => ?_
    · exact ⟨_, by walk_at "ev"⟩
    walk_at "nx"
    refine go_box0 (ds := [Datum.toD s]) E1 ?_ (Nat.le_of_ble_eq_true rfl) fun q' σ2 H2 nb2 nA2 nM2 E2 => ?_
    · exact ⟨_, by walk_at "ev"⟩
    have npq : p ≠ q' := nb2 2 p _ rfl
    -- while
    walk_at "nx"
    refine go_while0 E2 (fun n Γ => ∃ f w : List Cell, FInv S s f w ∧ n = 2 * (S.length - f.length) + w.length ∧ Γ = [some (J s), some (J (Tup.mk S)), some (Bxl p f), some (Bxl q' w), none, none, none]) (n0 := 2 * (S.length - 1) + 1) ⟨[s], [s], FInv.start hs, rfl, rfl⟩ ?_
    rintro n _ ⟨f, w, hi, rfl, rfl⟩
    refine ⟨_, ⟨_, et_test (ev_opI0 (ev_lenJB (ev_var rfl)) (ev_c (Sc.int _)) (Sc.bl _))⟩, fun hc σ3 H3 E3 => ?_, fun hc σ3 H3 E3 => ?_⟩
    · -- i, j = waiting.pop()
      have hw : w ≠ [] := fun e => by
        subst e
        exact absurd hc (by decide)
      obtain ⟨w', c, rfl⟩ : ∃ w' c, w = w' ++ [c] := ⟨_, _, (List.dropLast_concat_getLast hw).symm⟩
      walk_at "nx"
      refine go_popX (x := c) E3 rfl (.im (.im (.box npq (.none (.none (.none (.none .nil))))))) fun v H4 E4 hv => ?_
      refine tg_pair (d := Datum.toD c.1) (e := Datum.toD c.2) (by decide) _ _ H4 v E4 hv _ fun σ5 E5 _ => ?_
      -- for cell in ..
      have gi := hi.pop
      walk_at "nx"
      refine go_for0 (gs := ((nbs c).map Datum.toD).map isD) E5 ?_ (fun k Γ => ∃ f2 w2 : List Cell, GInv S s c k f2 w2 ∧ (w2.length : Int) - f2.length = (w'.length : Int) - f.length ∧ f.length ≤ f2.length ∧ ∃ o, Γ = [some (J s), some (J (Tup.mk S)), some (Bxl p f2), some (Bxl q' w2), some (J c.1), some (J c.2), o] ∧ ∀ z b, o ≠ some (.box z b)) ⟨f, w', gi, rfl, Nat.le_refl _, none, rfl, fun z b e => nomatch e⟩ ?_ ?_
      · exact ⟨_, ei_tup (by walk_at "ev")⟩
      · rintro H6 k g _ k7 σ6 H7 hg ⟨f2, w2, gk, hl, hle, o, rfl, ho⟩ E6
        rw [List.getElem?_map, List.getElem?_map] at hg
        cases ex : (nbs c)[k]? with
        | none => rw [ex] at hg; cases hg
        | some x =>
          rw [ex] at hg
          cases hg
          have hw2 : w2.length ≤ S.length := by
            have h3 : f2.length ≤ S.length := nodup_le gk.nd fun y hy => (gk.sub y hy).mem
            have h4 : w2.length ≤ f2.length := nodup_le gk.wn gk.wf
            omega
          have hf2 : f2.length ≤ S.length := nodup_le gk.nd fun y hy => (gk.sub y hy).mem
          have nbp : NoBox p [some (J s), some (J (Tup.mk S)), none, some (Bxl q' w2), some (J c.1), some (J c.2), some (J x)] := .im (.im (.none (.box npq.symm (.im (.im (.im .nil))))))
          have nbq : ∀ g : List Cell, NoBox q' [some (J s), some (J (Tup.mk S)), some (Bxl p g), none, some (J c.1), some (J c.2), some (J x)] := fun g => .im (.im (.box npq (.none (.im (.im (.im .nil))))))
          have gl := gk.look ex
          have ll := look_len (S := S) (x := x) hl
          have le2 := look_le (S := S) (f := f2) (w := w2) (x := x)
          refine go_if0 (P := (· = (mem x S && !mem x f2))) E6 ?_ (fun hc H8 E8 => ?_) fun hc H8 E8 => ?_
          · refine ⟨_, et_and (P := (· = mem x S)) (et_test (ev_inT (x := x) (xs := S) (ev_var rfl) (ev_var rfl))) (cu := 0 + 0) (fun hx => ?_) (fun hx => ?_)⟩
            · refine (et_test (ev_notInB (x := x) (xs := f2) (ev_var rfl) (ev_var rfl))).imp fun b hb => ?_
              rw [hb, ← hx]; rfl
            · rw [← hx]; rfl
          · refine seq ?_
            refine go_appendX0 E8 rfl ⟨_, ev_var rfl⟩ (by have := hz; exact lt_line (by omega)) nbp fun H9 E9 => ?_
            walk_at "nx"
            refine go_appendX0 E9 rfl ⟨_, ev_var rfl⟩ (by have := hz; exact lt_line (by omega)) (nbq _) fun H10 E10 => ?_
            have el : look S (f2, w2) x = (f2 ++ [x], w2 ++ [x]) := if_pos hc.symm
            rw [el] at gl ll le2
            exact ⟨_, _, ⟨_, _, gl, ll, Nat.le_trans hle le2, _, rfl, fun z b e => by cases e⟩, E10⟩
          · have el : look S (f2, w2) x = (f2, w2) := if_neg (by rw [← hc]; exact Bool.false_ne_true)
            rw [el] at gl ll le2
            exact ⟨_, _, ⟨_, _, gl, ll, hle, _, rfl, fun z b e => by cases e⟩, E8⟩
      · rintro _ k7 σ6 H7 ⟨f2, w2, gk, hl, hle, o, rfl, ho⟩ E6
        have E7 := ((E6.forget 4).forget 5).forget 6
        have fd := gk.done
        have l1 := hi.len
        have l2 := fd.len
        refine ⟨_, _, _, ?_, ⟨f2, w2, fd, rfl, rfl⟩, E7⟩
        rw [List.length_append]
        have : ([c] : List Cell).length = 1 := rfl
        omega
    · have hw : w = [] := by
        cases w with
        | nil => rfl
        | cons x w =>
          exfalso
          have := of_decide_eq_false hc.symm
          rw [List.length_cons] at this
          omega
      subst hw
      refine go_ret0 E3 ⟨_, ev_tupJL (ev_sortB (ev_var rfl) (.inl fun x _ => ⟨_, _, rfl⟩))⟩ fun v H' E' o => ?_
      rw [sort_eq hi.nd (comp_ris hS) hi.all] at o
      exact ret_D rfl (fun _ h => h) (fun a h => Or.inl (Or.inl h)) q E' o
end
end K03

set_option Elab.async false
set_option linter.all false
set_option maxRecDepth 100000
set_option maxHeartbeats 4000000
namespace K03
open PySem PySem.Spec PyProof.Rows L2 PySem.W Lh Pc
section
variable {P : Program} {w : World} {K : Frag} {mg : Str → Option Value} {base : Heap}
abbrev s_law_begun : Stmt := topS 6
abbrev N_law_begun : List Str := ["script", "wide", "cell"]
theorem sc_law_begun : FnScope N_law_begun ["script"] (defScope s_law_begun) := ⟨rfl, rfl, rfl, by decide +kernel, rfl, by decide +kernel, by decide +kernel⟩
def sp_begun (K : Frag) : Sp := fun vs H Q _ => ∃ (a : Addr) (ns : List Int), vs = [.ref a] ∧ SqL K H a (ns.map V.int) ∧ ns.length ≤ 63 ∧
  ∀ p g c H', (∀ b o, H b = some o → H' b = some o) → H p = none → H g = none → H c = none → StA p g c 0 H' → Q (.ref p) H'
theorem ok_law_begun {f : Addr} {fd : FuncData} (T : Tb mg) (O : Own K mg "_law_begun" s_law_begun f fd ["script"]) : FnOk P w K mg base CX0 1 f fd ["script"] (sp_begun K) := by
  have nd := sc_law_begun.nd
  refine O.F.ok sc_law_begun (fun vs H Q E h => ?_) (fun cdv A outer s H vs Q E hr h => ?_)
  · obtain ⟨a, ns, rfl, _⟩ := h
    rfl
  · obtain ⟨a, ns, rfl, hS, hl, q⟩ := h
    have hu := hu_of hr
    refine ⟨_, (pss_cons (ps_setLc (i := 1) (own := [("cell", 2)]) (g := gName 2) (tt := _) (by rfl) nd rfl rfl (sw_true rfl rfl rfl (by decide +kernel)) (k_forL K (pv 0)) (blkOk_by (own := [("cell", 2)]) (N := N_law_begun) (sc := defScope s_law_begun) (by decide +kernel)) (fun _ _ _ _ _ => (pg_name (i := 2) nd rfl (Or.inl rfl))) (fun _ _ _ _ _ => (pts_one (pt_cmpR op_ge (pv 2) (pe_op op_pow pe_int pe_int) (nomark _)))) (fun _ _ _ _ _ => (pe_op op_sub (pv 2) (pe_op op_pow pe_int pe_int))))
      (pss_one (ps_ret (pe_disp (pps_cons pe_str (pv 1) (pps_cons pe_str (pe_callTy (k_list K) (by rfl) T.z_list (by decide +kernel) (pa_cons (pv 0) pa_nil)) (pps_cons pe_str pe_int (pps_cons pe_str pe_int pps_nil)))) (by rfl) (by rfl) (fun z => by cases z) (by decide))))), ?_⟩
    have hp : (0 : Int) ≤ 18 ∧ (18 : Int) ≤ 1000000 ∧ (10 : Int).natAbs < 2 ^ 64 := by decide
    refine ⟨.ref a, rfl, a, rfl, ⟨_, hS⟩, fun g hg => lc_list (K := K) (a := a) (xs := ns.map V.int) (fun i H2 => (∀ b o, H b = some o → H2 b = some o) ∧ ∃ ws : List Int, H2 g = some (.lst (ws.map V.int)) ∧ ws.length ≤ i)
      ⟨ext_new hg, [], upd_same, Nat.le_refl _⟩ (fun i H2 _ ⟨k, _⟩ => Same.seq k hS) ?_ ?_⟩
    · rintro i x H2 hx ⟨k, ws, e, hws⟩
      obtain ⟨z, rfl⟩ : ∃ z, x = V.int z := by
        rw [List.getElem?_map] at hx
        cases ez : ns[i]? with
        | none => rw [ez] at hx; cases hx
        | some z => rw [ez] at hx; exact ⟨z, (Option.some.inj hx).symm⟩
      have hi : i < 63 := by
        have := (List.getElem?_eq_some_iff.mp hx).1
        rw [List.length_map] at this
        omega
      refine ⟨rfl, _, rfl, _, _, rfl, rfl, hp, _, _, rfl, rfl, _, rfl, ?_⟩
      refine ite2 (fun _ => ?_) (fun _ => ⟨k, ws, e, by omega⟩)
      refine ⟨_, rfl, _, _, rfl, rfl, hp, _, _, rfl, rfl, _, e, by rw [List.length_map]; exact lt_line (by omega), fun b o hb => ?_, ws ++ [_], by rw [upd_same, List.map_append]; rfl, by rw [List.length_append]; show ws.length + 1 ≤ i + 1; omega⟩
      rw [upd_ne (ne_of_none hb hg)]
      exact k b o hb
    · rintro H2 ⟨k, ws, e, _⟩
      refine fun p np => ⟨.ref g, rfl, .ref a, rfl, a, ns.map V.int, rfl, .inl (Same.seq (fun b o hb => ?_) hS), fun c nc => ?_⟩
      · rw [upd_ne (ne_of_none hb (by
          cases ep : H p with
          | none => rfl
          | some o => rw [k p o ep] at np; cases np))]
        exact k b o hb
      · have npH : H p = none := by
          cases ep : H p with
          | none => rfl
          | some o => rw [k p o ep] at np; cases np
        have hcp : c ≠ p := fun z => by rw [z, upd_same] at nc; cases nc
        have hgp : g ≠ p := fun z => by rw [z] at e; rw [e] at np; cases np
        have hgc : g ≠ c := fun z => by rw [z] at e; rw [upd_ne hcp, e] at nc; cases nc
        have ncH : H c = none := by
          rw [upd_ne hcp] at nc
          cases ep : H c with
          | none => rfl
          | some o => rw [k c o ep] at nc; cases nc
        refine ⟨by rw [upd_ne hcp.symm, upd_same], [(kG, .ref g), (kC, .ref c), (kR, .int 0), (kT, .int 0)], rfl, by show 4 ≤ 15; decide, ?_⟩
        have em : mergeK [] [(kG, V.ref g), (kC, .ref c), (kR, .int 0), (kT, .int 0)] = Lh.stK g c 0 0 := by
          unfold Lh.stK
          show putK (putK (putK (putK [] kG _) kC _) kR _) kT _ = _
          rw [putK_new _ rfl, putK_new (kvs := _) (k := kC) _ (by exact (valV_neg kGC).trans rfl), putK_new (k := kR) _ (by exact (valV_neg kGR).trans ((valV_neg kCR).trans rfl)), putK_new (k := kG) _ rfl]
          rfl
        rw [em]
        refine q p g c _ (fun b o hb => ?_) npH hg ncH ⟨0, 0, ws, ns, ⟨upd_same, ?_, ?_, hgc⟩, Int.le_refl _, Int.le_refl _⟩
        · rw [upd_ne (ne_of_none hb npH), upd_ne (ne_of_none hb ncH), upd_ne (ne_of_none hb npH)]
          exact k b o hb
        · rw [upd_ne hgp, upd_ne hgc, upd_ne hgp]
          exact e
        · rw [upd_ne hcp, upd_same]

/-! ### mixing and taking -/
theorem dg {H : Hp} {p : Addr} {kvs : List (L2.Key × V)} {x : Str} {v : V} (h : H p = some (.dK kvs)) (e : valV kvs (Sum.inr x) = some v) : DGet H p (.str x) (some v) := by
  have := DGet.k (k := Sum.inr x) h
  rw [e] at this
  exact this
theorem dp {H : Hp} {p : Addr} {kvs kvs' : List (L2.Key × V)} {x : Str} {v : V} (h : H p = some (.dK kvs)) (hl : kvs.length < sizeLine) (e : putK kvs (Sum.inr x) v = kvs') : DPut H p (.str x) v (upd H p (.dK kvs')) := by
  have := DPut.k (k := Sum.inr x) (v := v) h hl
  rw [e] at this
  exact this
theorem st4 {g c : Addr} {r t : Int} : (Lh.stK g c r t).length < sizeLine := by
  show 4 < sizeLine
  decide
abbrev s_law_mixed : Stmt := topS 7
abbrev N_law_mixed : List Str := ["state", "turn", "found", "prime", "blend", "cell"]
theorem sc_law_mixed : FnScope N_law_mixed ["state"] (defScope s_law_mixed) := ⟨rfl, rfl, rfl, by decide +kernel, rfl, by decide +kernel, by decide +kernel⟩
def sp_mixed : Sp := fun vs H Q _ => ∃ p g c r t gs cs, vs = [.ref p] ∧ StD p g c r t gs cs H ∧ 0 ≤ t ∧ t < 1000000000 ∧
  ∀ n H', (∀ a o, H a = some o → a ≠ p → H' a = some o) → StD p g c r (t + 1) gs cs H' → Q (.int n) H'
def primes : List Int := [2147483629, 2147483587, 2147483579, 2147483563, 2147483549, 2147483543]
theorem ok_law_mixed {f : Addr} {fd : FuncData} (O : Own K mg "_law_mixed" s_law_mixed f fd ["state"]) : FnOk P w K mg base CX0 1 f fd ["state"] sp_mixed := by
  have nd := sc_law_mixed.nd
  refine O.F.ok sc_law_mixed (fun vs H Q E h => ?_) (fun cdv A outer s H vs Q E hr h => ?_)
  · obtain ⟨p, g, c, r, t, gs, cs, rfl, _⟩ := h
    rfl
  · obtain ⟨p, g, c, r, t, gs, cs, rfl, S, h0, h9, q⟩ := h
    have hu := hu_of hr
    refine ⟨_, (pss_cons (ps_set (i := 1) nd rfl (Or.inl rfl) (pe_op op_add (pe_dget hu (pv 0) pe_str (fun _ _ => rfl)) pe_int))
      (pss_cons (ps_dput hu (pv 0) pe_str (pv 1) rfl)
      (pss_cons (ps_set (i := 2) nd rfl (Or.inl rfl) pe_int)
      (pss_cons (ps_for PassesOwn.never rfl (k_forL K (pe_lst (pa_cons pe_int (pa_cons pe_int (pa_cons pe_int (pa_cons pe_int (pa_cons pe_int (pa_cons pe_int pa_nil)))))))) (pg_name (i := 3) nd rfl (Or.inl rfl))
      (pss_cons (ps_set (i := 4) nd rfl (Or.inl rfl) (pe_op op_add (pe_op op_mul pe_int (pv 1)) (pe_op op_fdivN (pv 3) pe_int)))
      (pss_cons (ps_for PassesOwn.never rfl (k_forL K (pe_dget hu (pv 0) pe_str (fun _ _ => rfl))) (pg_name (i := 5) nd rfl (Or.inl rfl))
      (pss_one (ps_set (i := 4) nd rfl (Or.inl rfl) (pe_op op_modN (pe_op op_add (pe_op op_mul (pv 4) pe_int) (pv 5)) (pv 3)))))
      (pss_one (ps_set (i := 2) nd rfl (Or.inl rfl) (pe_op op_add (pe_op op_mul (pv 2) pe_int) (pe_op op_modN (pe_op op_mul (pv 4) (pv 4)) (pv 3))))))))
      (pss_one (ps_ret (pv 2))))))), ?_⟩
    -- turn = state['turn'] + 1; state['turn'] = turn; found = 0
    have S1 := S.setP r (t + 1)
    refine ⟨.ref p, rfl, p, .int t, rfl, dg S.hp (st_turn g c r t), _, _, rfl, rfl, .int (t + 1), rfl, .ref p, rfl, p, _, rfl, dp S.hp st4 (st_putT g c r t (t + 1)), ?_⟩
    -- for prime in [..]
    refine ⟨Nat.le_of_ble_eq_true rfl, fun l hl => ⟨l, rfl, ⟨_, .inl (.inl upd_same)⟩, ?_⟩⟩
    have lp : p ≠ l := ne_of_none S1.hp hl
    have lg : g ≠ l := ne_of_none S1.hg hl
    have lc : c ≠ l := ne_of_none S1.hc hl
    have S2 : StD p g c r (t + 1) gs cs (upd (upd H p (.dK (Lh.stK g c r (t + 1)))) l (.lst (primes.map V.int))) :=
      ⟨by rw [upd_ne lp]; exact S1.hp, by rw [upd_ne lg]; exact S1.hg, by rw [upd_ne lc]; exact S1.hc, S1.ne⟩
    refine for_list (K := K) (a := l) (xs := primes.map V.int) (fun i σ H2 => H2 = upd (upd H p (.dK (Lh.stK g c r (t + 1)))) l (.lst (primes.map V.int)) ∧ ∃ (z : Int) (x3 x4 x5 : Option V), σ = [some (.ref p), some (.int (t + 1)), some (.int z), x3, x4, x5])
      ⟨rfl, 0, none, none, none, rfl⟩ (fun i σ H2 _ ⟨e, _⟩ => by rw [e]; exact .inl (.inl upd_same)) ?_ ?_
    · rintro i x σ H2 hx ⟨rfl, z, x3, x4, x5, rfl⟩
      obtain ⟨y, hy, rfl⟩ : ∃ y, y ∈ primes ∧ x = V.int y := by
        have := List.mem_of_getElem? hx
        obtain ⟨y, hy, e⟩ := List.mem_map.mp this
        exact ⟨y, hy, e.symm⟩
      have hb : 2147483543 ≤ y ∧ y ≤ 2147483629 := by
        simp only [primes, List.mem_cons, List.not_mem_nil, or_false] at hy
        omega
      -- blend = 104729 * turn + prime // 7
      refine ⟨.int (t + 1), rfl, _, _, rfl, rfl, .inl ⟨by decide, by decide⟩, .int y, rfl, _, _, rfl, rfl, ⟨by decide, by decide⟩, _, _, rfl, rfl, ?_⟩
      -- for cell in state['cells']
      refine ⟨.ref p, rfl, p, .ref c, rfl, dg S2.hp (st_cells g c r (t + 1)), c, rfl, ⟨_, .inl (.inl S2.hc)⟩, ?_⟩
      refine for_list (K := K) (a := c) (xs := cs.map V.int) (fun i σ H2 => H2 = upd (upd H p (.dK (Lh.stK g c r (t + 1)))) l (.lst (primes.map V.int)) ∧ ∃ (b : Int) (x5 : Option V), σ = [some (.ref p), some (.int (t + 1)), some (.int z), some (.int y), some (.int b), x5] ∧ -1000 ≤ b ∧ b < 1000000000000000)
        ⟨rfl, _, x5, rfl, ?_⟩ (fun i σ H2 _ ⟨e, _⟩ => by rw [e]; exact .inl (.inl S2.hc)) ?_ ?_
      · have : y.fdiv 7 = y / 7 := Int.fdiv_eq_ediv_of_nonneg _ (by decide)
        rw [this]
        omega
      · rintro j x σ H2 hx ⟨rfl, b, x5, rfl, hb1, hb2⟩
        obtain ⟨u, rfl⟩ : ∃ u, x = V.int u := by
          have := List.mem_of_getElem? hx
          obtain ⟨u, _, e⟩ := List.mem_map.mp this
          exact ⟨u, e.symm⟩
        refine ⟨.int b, rfl, _, _, rfl, rfl, .inr ⟨by decide, by decide⟩, .int u, rfl, _, _, rfl, rfl, .int y, rfl, _, _, rfl, rfl, (by omega), rfl, _, _, rfl, ?_⟩
        have e : (b * 48271 + u).fmod y = (b * 48271 + u) % y := Int.fmod_eq_emod_of_nonneg _ (by omega)
        rw [e]
        have h1 := Int.emod_nonneg (b * 48271 + u) (show y ≠ 0 by omega)
        have h2 := Int.emod_lt_of_pos (b * 48271 + u) (show 0 < y by omega)
        omega
      · rintro σ H2 ⟨rfl, b, x5, rfl, hb1, hb2⟩
        refine ⟨.int z, rfl, _, _, rfl, rfl, .inr ⟨by decide, by decide⟩, .int b, rfl, .int b, rfl, _, _, rfl, rfl, .inl ⟨by omega, by omega⟩, .int y, rfl, _, _, rfl, rfl, (by omega), _, _, rfl, rfl, rfl, _, _, _, _, rfl⟩
    · rintro σ H2 ⟨rfl, z, x3, x4, x5, rfl⟩
      refine ⟨.int z, rfl, q z _ (fun a o ha hne => ?_) S2⟩
      by_cases e : a = l
      · subst e
        rw [upd_ne hne, ha] at hl
        cases hl
      · rw [upd_ne e, upd_ne hne]
        exact ha
end
end K03

set_option Elab.async false
set_option linter.all false
set_option maxRecDepth 100000
set_option maxHeartbeats 4000000
namespace K03
open PySem PySem.Spec PyProof.Rows L2 PySem.W Lh Pc
theorem join {t u : TS} {De : Ends} {σ : L2.St} {H : Hp} (Pj : Hp → Prop) (h1 : ∀ X : L2.St → Hp → Prop, (∀ H', Pj H' → X σ H') → t ⟨X, De.rt, De.bk, De.ct⟩ σ H) (h2 : ∀ H', Pj H' → u De σ H') : tSeq t u De σ H := h1 _ h2
section
variable {P : Program} {w : World} {K : Frag} {mg : Str → Option Value} {base : Heap}
abbrev s_law_take : Stmt := topS 8
abbrev N_law_take : List Str := ["state", "many", "found"]
theorem sc_law_take : FnScope N_law_take ["state", "many"] (defScope s_law_take) := ⟨rfl, rfl, rfl, by decide +kernel, rfl, by decide +kernel, by decide +kernel⟩
def R_take (ds : List PyData) (R : PyData → Prop) : Prop := ∃ m : Int, 0 < m ∧ m < 1073741824 ∧ ds = [.int m] ∧ R = fun d => ∃ k : Int, d = .int k ∧ 0 ≤ k ∧ k < m
theorem ok_law_take {f fM : Addr} {fd fdM : FuncData} (O : Own K mg "_law_take" s_law_take f fd ["state", "many"]) (O_law_mixed : Own K mg "_law_mixed" s_law_mixed fM fdM ["state"]) : FnOk P w K mg base CX0 2 f fd ["state", "many"] (spS 1 R_take) := by
  have nd := sc_law_take.nd
  have G_law_mixed : FnOk P w K mg base CX0 1 fM fdM ["state"] sp_mixed := ok_law_mixed O_law_mixed
  refine O.F.ok sc_law_take (fun vs H Q E h => ?_) (fun cdv A outer s H vs Q E hr h => ?_)
  · obtain ⟨A, p, g, c, n, us, ds, R, rfl, hd, _, _, _, _, ⟨m, _, _, rfl, _⟩, _⟩ := h
    rw [List.length_cons, hd.length]
    rfl
  · obtain ⟨A, p, g, c, n, us, ds, R, rfl, hd, ht, hA, hcap, ⟨r, t, gs, cs, S, h0, hn⟩, ⟨m, hm0, hm9, rfl, rfl⟩, q⟩ := h
    have hu := hu_of hr
    have eu : us = [.int m] := by
      cases hd with
      | cons a b =>
        cases a
        cases b
        rfl
    subst eu
    unfold capN at hcap
    refine ⟨_, (pss_cons (ps_if (PW.pt (pw_and (pt_cmpR (k_eq K hr.units) (pe_dget hu (pv 0) pe_str (fun _ _ => rfl)) pe_int (nomark _)) (pw_and1 (pt_cmpR (k_ne K hr.units) (pe_dget hu (pv 0) pe_str (fun _ _ => rfl)) (pe_lst pa_nil) (nomark _)))))
      (pss_one (ps_dput hu (pv 0) pe_str (k_bm K PySem.F.plainAttrs_list PySem.F.slot_list_pop PySem.F.type_list_pop mt_popAt (pe_dget hu (pv 0) pe_str (fun _ _ => rfl)) (pa_cons pe_int pa_nil)) rfl)) (pss_one (ps_if (pt_cmpR (k_eq K hr.units) (pe_dget hu (pv 0) pe_str (fun _ _ => rfl)) pe_int (nomark _))
      (pss_one (ps_dput hu (pv 0) pe_str (pe_call G_law_mixed (hr.mono (by decide)) (by rfl) O_law_mixed.g O_law_mixed.F.kp O_law_mixed.b .nil pass0 (pa_cons (pv 0) pa_nil)) rfl)) pss_nil)))
      (pss_cons (ps_set (i := 2) nd rfl (Or.inl rfl) (pe_op op_modN (pe_dget hu (pv 0) pe_str (fun _ _ => rfl)) (pv 1)))
      (pss_cons (ps_dput hu (pv 0) pe_str (pe_op op_fdivN (pe_dget hu (pv 0) pe_str (fun _ _ => rfl)) (pv 1)) rfl)
      (pss_one (ps_ret (pv 2)))))), ?_⟩
    refine join (fun H' => ∃ r t gs, StD p g c r t gs cs H' ∧ 0 ≤ t ∧ t ≤ (n + 1 : Nat) ∧ ∀ a o, H a = some o → ¬ Sm p g c a → H' a = some o) (fun X hX => ?_) (fun H' ⟨r', t', gs', S', h0', hn', kp⟩ => ?_)
    · -- if state['rest'] == 0 and state['great'] != []
      refine ⟨.ref p, rfl, p, .int r, rfl, dg S.hp (st_rest g c r t), Int, _, _, r, 0, .int r, .int 0, by decide, _, rfl, ?_⟩
      by_cases er : r = 0
      · rw [decide_eq_true er]
        refine iteT ⟨.ref p, rfl, p, .ref g, rfl, dg S.hp (st_great g c r t), Nat.zero_le _, fun l hl => ?_⟩
        have lp : p ≠ l := ne_of_none S.hp hl
        have lg : g ≠ l := ne_of_none S.hg hl
        have lc : c ≠ l := ne_of_none S.hc hl
        have S1 : StD p g c r t gs cs (upd H l (.lst [])) := ⟨by rw [upd_ne lp]; exact S.hp, by rw [upd_ne lg]; exact S.hg, by rw [upd_ne lc]; exact S.hc, S.ne⟩
        have k1 : ∀ a o, H a = some o → (upd H l (.lst [])) a = some o := ext_new hl
        refine ⟨List Int, _, _, gs, [], .lst (.inl (.inl S1.hg)) (DqA.dp K (A := fun _ => False) (by show DqA _ _ (gs.map V.int) (gs.map PyData.int); exact DqA.of_ints)), .lst (.inl (.inl upd_same)) .nil, by decide, _, rfl, ?_⟩
        by_cases eg : gs = []
        · rw [decide_eq_false (by rw [eg]; exact fun z => z rfl)]
          refine iteF ⟨.ref p, rfl, p, .int r, rfl, dg S1.hp (st_rest g c r t), Int, _, _, r, 0, .int r, .int 0, by decide, _, rfl, ?_⟩
          rw [decide_eq_true er]
          refine iteT ⟨.ref p, rfl, p, g, c, r, t, gs, cs, rfl, S1, h0, by omega, fun z H2 k2 S2 => ⟨.ref p, rfl, p, _, rfl, dp S2.hp st4 (st_putR g c r (t + 1) z), hX _ ⟨z, t + 1, gs, S2.setP z (t + 1), by omega, by omega, fun a o ha hne => ?_⟩⟩⟩
          rw [upd_ne (fun e => hne (.inl e))]
          exact k2 a o (k1 a o ha) (fun e => hne (.inl e))
        · rw [decide_eq_true eg]
          obtain ⟨z, gs', rfl⟩ : ∃ z gs', gs = z :: gs' := by
            cases gs with
            | nil => exact absurd rfl eg
            | cons z gs' => exact ⟨z, gs', rfl⟩
          have S2 := S1.setG gs'
          refine iteT ⟨.ref p, rfl, p, .ref g, rfl, dg S1.hp (st_great g c r t), .inl ⟨rfl, _, .inl (.inl S1.hg)⟩, g, _, 0, 0, .int z, rfl, rfl, S1.hg, by decide, by decide, by simp [seqIndex?], rfl, ?_⟩
          refine ⟨.ref p, rfl, p, _, rfl, dp S2.hp st4 (st_putR g c r t z), hX _ ⟨z, t, gs', S2.setP z t, h0, by omega, fun a o ha hne => ?_⟩⟩
          rw [upd_ne (fun e => hne (.inl e)), upd_ne (fun e => hne (.inr (.inl e)))]
          exact k1 a o ha
      · rw [decide_eq_false er]
        refine iteF (iteF ⟨.ref p, rfl, p, .int r, rfl, dg S.hp (st_rest g c r t), Int, _, _, r, 0, .int r, .int 0, by decide, _, rfl, ?_⟩)
        rw [decide_eq_false er]
        exact iteF (hX _ ⟨r, t, gs, S, h0, by omega, fun a o ha _ => ha⟩)
    · -- found = state['rest'] % many; state['rest'] = state['rest'] // many; return found
      refine ⟨.ref p, rfl, p, .int r', rfl, dg S'.hp (st_rest g c r' t'), .int m, rfl, _, _, rfl, rfl, by omega, ?_⟩
      refine ⟨.ref p, rfl, p, .int r', rfl, dg S'.hp (st_rest g c r' t'), .int m, rfl, _, _, rfl, rfl, ⟨by omega, by omega⟩, .ref p, rfl, p, _, rfl, dp S'.hp st4 (st_putR g c r' t' _), ?_⟩
      have S2 := S'.setP (r'.fdiv m) t'
      have e : r'.fmod m = r' % m := Int.fmod_eq_emod_of_nonneg _ (by omega)
      refine ⟨.int (r'.fmod m), rfl, q _ (.int (r'.fmod m)) _ (fun a o ha hne => ?_) ⟨_, _, _, _, S2, h0', hn'⟩ (.int _) ⟨_, rfl, ?_, ?_⟩⟩
      · rw [upd_ne (fun e => hne (.inl e))]
        exact kp a o ha hne
      · rw [e]
        exact Int.emod_nonneg _ (by omega)
      · rw [e]
        exact Int.emod_lt_of_pos _ hm0
end
end K03

set_option Elab.async false
set_option linter.all false
set_option maxRecDepth 100000
set_option maxHeartbeats 4000000
namespace Pc
open PySem PySem.W Lh
/-- the cells of c columns and r rows -/
def grid (c r : Int) : List Cell := (List.range (c * r).toNat).map fun k : Nat => ((k : Int) / r, (k : Int) % r)
theorem grid_ris {c r : Int} (hr : 1 ≤ r ∧ r ≤ 7) : Ris (grid c r) := by
  unfold Ris grid
  rw [List.pairwise_map]
  refine List.pairwise_lt_range.imp fun {a b} h => ?_
  rw [cl_lt]
  simp only
  have h' : (a : Int) < b := by omega
  generalize (a : Int) = x at h'
  generalize (b : Int) = y at h'
  obtain ⟨h1, h7⟩ := hr
  have hc : r = 1 ∨ r = 2 ∨ r = 3 ∨ r = 4 ∨ r = 5 ∨ r = 6 ∨ r = 7 := by omega
  rcases hc with rfl | rfl | rfl | rfl | rfl | rfl | rfl <;> omega
theorem grid_len {c r : Int} (hc : 1 ≤ c ∧ c ≤ 7) (hr : 1 ≤ r ∧ r ≤ 7) : (grid c r).length ≤ 49 := by
  unfold grid
  rw [List.length_map, List.length_range]
  have : c * r ≤ 7 * 7 := Int.mul_le_mul hc.2 hr.2 (by omega) (by omega)
  omega
theorem grid_ne {c r : Int} (hc : 1 ≤ c ∧ c ≤ 7) (hr : 1 ≤ r ∧ r ≤ 7) : grid c r ≠ [] := by
  intro e
  have h := congrArg List.length e
  unfold grid at h
  rw [List.length_map, List.length_range] at h
  have : 1 * 1 ≤ c * r := Int.mul_le_mul hc.1 hr.1 (by omega) (by omega)
  simp at h
  omega
theorem Ris.sub {S R : List Cell} (h : Ris S) (k : R.Sublist S) : Ris R := List.Pairwise.sublist k h
end Pc
namespace K03
open PySem PySem.Spec PyProof.Rows L2 PySem.W Lh Pc
section
variable {P : Program} {w : World} {K : Frag} {mg : Str → Option Value} {base : Heap}
abbrev s_law_pick : Stmt := topS 9
abbrev N_law_pick : List Str := ["state", "some"]
theorem sc_law_pick : FnScope N_law_pick ["state", "some"] (defScope s_law_pick) := ⟨rfl, rfl, rfl, by decide +kernel, rfl, by decide +kernel, by decide +kernel⟩
def R_pick (ds : List PyData) (R : PyData → Prop) : Prop := ∃ es : List PyData, es ≠ [] ∧ es.length ≤ 100000 ∧ ds = [.list es] ∧ R = (· ∈ es)
theorem ok_law_pick {f fT : Addr} {fd fdT : FuncData} (T : Tb mg) (O : Own K mg "_law_pick" s_law_pick f fd ["state", "some"]) (O_law_take : Own K mg "_law_take" s_law_take fT fdT ["state", "many"])
    (G_law_take : FnOk P w K mg base CX0 2 fT fdT ["state", "many"] (spS 1 R_take)) : FnOk P w K mg base CX0 3 f fd ["state", "some"] (spS 1 R_pick) := by
  have nd := sc_law_pick.nd
  refine O.F.ok sc_law_pick (fun vs H Q E h => ?_) (fun cdv A outer s H vs Q E hr h => ?_)
  · obtain ⟨A, p, g, c, n, us, ds, R, rfl, hd, _, _, _, _, ⟨es, _, _, rfl, _⟩, _⟩ := h
    rw [List.length_cons, hd.length]
    rfl
  · obtain ⟨A, p, g, c, n, us, ds, R, rfl, hd, ht, hA, hcap, hI, ⟨es, hne, hl, rfl, rfl⟩, q⟩ := h
    have hu := hu_of hr
    refine ⟨_, (pss_one (ps_ret (pe_ix (k_ixL K) (pv 1) (pe_call G_law_take (hr.mono (by decide)) (by rfl) O_law_take.g O_law_take.F.kp O_law_take.b .nil pass0 (pa_cons (pv 0) (pa_cons (pe_callB (k_len K) (by rfl) T.z_len (by decide +kernel) (pa_cons (pv 1) pa_nil)) pa_nil))) (fun _ _ => rfl)))), ?_⟩
    have E0 := env_startS (N := N_law_pick) (k := 1) hd ht hA hI
    have hs : Has (mS A p g c (n + 1) H) p g c (n + 1) := has_mS hcap
    have hpos : 0 < es.length := List.length_pos_iff.mpr hne
    refine go_ret E0 (sp (c' := 0 + (0 + (0 + 0) + 1)) (by decide)) (ev_ixLU (ev_var rfl) (ev_callS1 hs (ev_var rfl) (evd_cons (ev_lenL (ev_var rfl)) evd_nil) ⟨(es.length : Nat), by omega, by omega, rfl, rfl⟩) (Int.le_refl _)) fun v H' _ E' o => ?_
    exact ret_S hs rfl (fun _ h => h) q E' o
abbrev s_law_region : Stmt := topS 10
abbrev N_law_region : List Str := ["state", "columns", "rows", "share", "some", "k", "found", "cell"]
theorem sc_law_region : FnScope N_law_region ["state", "columns", "rows"] (defScope s_law_region) := ⟨rfl, rfl, rfl, by decide +kernel, rfl, by decide +kernel, by decide +kernel⟩
/-- some cells of the grid, rising -/
def Reg (c r : Int) (S : List Cell) : Prop := S.Sublist (grid c r) ∧ S ≠ []
def R_region (ds : List PyData) (R : PyData → Prop) : Prop := ∃ c r : Int, (1 ≤ c ∧ c ≤ 7) ∧ (1 ≤ r ∧ r ≤ 7) ∧ ds = [.int c, .int r] ∧ R = fun d => ∃ S, d = Datum.toD (Tup.mk S) ∧ Reg c r S
theorem ok_law_region {f fT fP : Addr} {fd fdT fdP : FuncData} (T : Tb mg) (O : Own K mg "_law_region" s_law_region f fd ["state", "columns", "rows"]) (O_law_take : Own K mg "_law_take" s_law_take fT fdT ["state", "many"])
    (G_law_take : FnOk P w K mg base CX0 2 fT fdT ["state", "many"] (spS 1 R_take)) (O_law_pick : Own K mg "_law_pick" s_law_pick fP fdP ["state", "some"])
    (G_law_pick : FnOk P w K mg base CX0 3 fP fdP ["state", "some"] (spS 1 R_pick)) : FnOk P w K mg base CX0 4 f fd ["state", "columns", "rows"] (spS 60 R_region) := by
  have nd := sc_law_region.nd
  refine O.F.ok sc_law_region (fun vs H Q E h => ?_) (fun cdv A outer s H vs Q E hr h => ?_)
  · obtain ⟨A, p, g, c, n, us, ds, R, rfl, hd, _, _, _, _, ⟨c, r, _, _, rfl, _⟩, _⟩ := h
    rw [List.length_cons, hd.length]
    rfl
  · obtain ⟨A, p, g, c, n, us, ds, R, rfl, hd, ht, hA, hcap, hI, ⟨co, ro, hc, hro, rfl, rfl⟩, q⟩ := h
    have hu := hu_of hr
    refine ⟨_, (pss_cons (ps_set (i := 3) nd rfl (Or.inr rfl) (pe_op op_add pe_int (pe_call G_law_take (hr.mono (by decide)) (by rfl) O_law_take.g O_law_take.F.kp O_law_take.b .nil pass0 (pa_cons (pv 0) (pa_cons pe_int pa_nil)))))
      (pss_cons (ps_setLc (i := 4) (own := [("k", 5)]) (g := gName 5) (tt := tYes) (by rfl) nd rfl rfl (sw_true rfl rfl rfl (by decide +kernel)) (pi_range1 rfl T.z_range (pa_cons (pe_op op_mul (pv 1) (pv 2)) pa_nil)) (blkOk_by (own := [("k", 5)]) (N := N_law_region) (sc := defScope s_law_region) (by decide +kernel)) (fun _ _ _ _ _ => (pg_name (i := 5) nd rfl (Or.inl rfl))) (fun _ _ _ _ _ => pts_nil) (fun _ _ _ _ _ => (pe_tup (pa_cons (pe_op op_fdivN (pv 5) (pv 2)) (pa_cons (pe_op op_modN (pv 5) (pv 2)) pa_nil)))))
      (pss_cons (ps_setLc (i := 6) (own := [("cell", 7)]) (g := gName 7) (tt := _) (by rfl) nd rfl rfl (sw_true rfl rfl rfl (by decide +kernel)) (k_forL K (pv 4)) (blkOk_by (own := [("cell", 7)]) (N := N_law_region) (sc := defScope s_law_region) (by decide +kernel)) (fun _ _ _ _ _ => (pg_name (i := 7) nd rfl (Or.inl rfl))) (fun _ _ _ _ _ => (pts_one (pt_cmpR op_lt (pe_call G_law_take (hr.mono (by decide)) (by rfl) O_law_take.g O_law_take.F.kp O_law_take.b .nil pass0 (pa_cons (pv 0) (pa_cons pe_int pa_nil))) (pv 3) (nomark _)))) (fun _ _ _ _ _ => (pv 7)))
      (pss_one (ps_ret (pe_callTy (k_tuple K) (by rfl) T.z_tuple (by decide +kernel) (pa_cons (pe_ifExp (pt_cmpR (k_ne K hr.units) (pv 6) (pe_lst pa_nil) (nomark _)) (pv 6) (pe_lst (pa_cons (pe_call G_law_pick (hr.mono (by decide)) (by rfl) O_law_pick.g O_law_pick.F.kp O_law_pick.b .nil pass0 (pa_cons (pv 0) (pa_cons (pv 4) pa_nil))) pa_nil))) pa_nil))))))), ?_⟩
    have E0 := env_startS (N := N_law_region) (k := 60) hd ht hA hI
    have hs : Has (mS A p g c (n + 60) H) p g c (n + 60) := has_mS hcap
    -- share
    refine seq ?_
    refine go_set E0 (sp (c' := 0 + ((0 + (0 + 0)) + 1)) (by decide)) (ev_opU (P := fun d => ∃ i : Int, d = .int i ∧ 0 ≤ i) (ev_c (Sc.int 1)).asU (ev_callS1 hs (ev_var rfl) (evd_cons (ev_c (Sc.int 4)) evd_nil) ⟨4, by decide, by decide, rfl, rfl⟩) fun i j hi hj => ⟨_, Sc.int _, _, rfl, by omega⟩) fun σ1 H1 E1 => ?_
    obtain ⟨_, ⟨sh, rfl, _⟩, E1⟩ := E1.open_ (i := 3) rfl
    -- some
    have eg : grid co ro = (((List.range (co * ro).toNat).map fun i => (0 + (i : Nat) : Int)).filter fun _ => true).map fun k : Int => ((k.fdiv ro, k.fmod ro) : Cell) := by
      unfold grid
      rw [List.filter_eq_self.mpr (fun _ _ => rfl), List.map_map]
      refine List.map_congr_left fun k _ => ?_
      show _ = ((0 + (k : Int)).fdiv ro, (0 + (k : Int)).fmod ro)
      rw [Int.zero_add, Int.fdiv_eq_ediv_of_nonneg _ (by omega), Int.fmod_eq_emod_of_nonneg _ (by omega)]
    have hmul : co * ro ≤ 7 * 7 := Int.mul_le_mul hc.2 hro.2 (by omega) (by omega)
    have hmul0 : 0 ≤ co * ro := Int.mul_nonneg (by omega) (by omega)
    refine nxs ?_
    have e0 : ((rng 0 (co * ro).toNat).map isD) = ((((List.range (co * ro).toNat).map fun i : Nat => (0 + (i : Nat) : Int)).map Datum.toD).map isD) := by
      unfold rng
      rw [List.map_map, List.map_map, List.map_map]
      rfl
    have hx : ∀ Dp (x : Int), Ev ((mS A p g c (n + 60) H).add Dp) ((0 + 0) + ((0 + 0) + 0)) (tTup (tCons (tOp (rI CDivN fun i j => .int (i.fdiv j)) (tVar 5) (tVar 2)) (tCons (tOp (rI (fun _ j => j ≠ 0) fun i j => .int (i.fmod j)) (tVar 5) (tVar 2)) tNil)))
        [some (Vl (.ref p)), some (D (.int co)), some (D (.int ro)), some (D (.int sh)), none, some (J x), none, none] (J ((x.fdiv ro, x.fmod ro) : Cell)) := fun Dp x =>
      ev_tup' (evd_cons (ev_opI (ev_var rfl) (ev_var rfl) ⟨by omega, by omega⟩ (Sc.int _)) (evd_cons (ev_opI (ev_var rfl) (ev_var rfl) (by omega) (Sc.int _)) evd_nil)) (Nat.le_of_ble_eq_true rfl)
    refine go_set E1 (sp (k := 60 - (0 + (0 + (0 + 0) + 1))) (c' := 0) (by decide)) (g := J (grid co ro)) ?_ fun σ2 H2 E2 => ?_
    · rw [eg]
      have h1 := ei_rng1 (m := mS A p g c (n + 60) H) (Γ := [some (Vl (.ref p)), some (D (.int co)), some (D (.int ro)), some (D (.int sh)), none, none, none, none]) (te := tOp (rI CMul fun i j => .int (i * j)) (tVar 1) (tVar 2)) (n := co * ro) (ev_opI (ev_var rfl) (ev_var rfl) (.inl ⟨by omega, by omega⟩) (Sc.int _)) (by omega) (by omega)
      rw [e0] at h1
      have h2 := ev_lcJ (vs := [5]) (j := 5) (fun _ => true) (fun k : Int => ((k.fdiv ro, k.fmod ro) : Cell)) h1 (by rw [List.length_map, List.length_range]; exact le_line (by omega)) (by decide) (fun Dp x _ => ⟨et_yes, fun _ => hx Dp x⟩)
      refine h2.up ?_
      simp
    -- found
    refine nxs ?_
    have hgl : (grid co ro).length ≤ 49 := grid_len hc hro
    refine go_set E2 (sp (c' := 50) (by decide)) (g := U fun d => ∃ es, d = .list es ∧ (∃ ys : List Cell, es = ys.map Datum.toD ∧ ys.Sublist (grid co ro))) ?_ fun σ3 H3 E3 => ?_
    · refine ((ev_lc (vs := [7]) (ct := (0 + (0 + 0) + 1) + 0) (ce := 0) (ei_list (ev_var rfl)) (by rw [List.length_map, List.length_map]; exact le_line (by omega)) (fun i es => ∃ ys : List Cell, es = ys.map Datum.toD ∧ ys.Sublist ((grid co ro).take i)) ⟨[], rfl, List.nil_sublist _⟩ fun Dp i gg es hg ⟨ys, e, hsub⟩ => ?_).monoP ?_).up ?_
      · rw [List.getElem?_map, List.getElem?_map] at hg
        cases ex : (grid co ro)[i]? with
        | none => rw [ex] at hg; cases hg
        | some x =>
          rw [ex] at hg
          cases hg
          have et : (grid co ro).take (i + 1) = (grid co ro).take i ++ [x] := by rw [List.take_add_one, ex]; rfl
          refine ⟨_, [7], tg_name, fun i hi => hi, fun _ => True, et_testP (ev_opU (q := (· = sh)) (ev_callS1 hs.add (ev_var rfl) (evd_cons (ev_c (Sc.int 5)) evd_nil) ⟨5, by decide, by decide, rfl, rfl⟩) ((ev_var rfl : Ev _ 0 _ _ (D (.int sh))).asU) fun i j _ _ => ⟨_, Sc.bl _, _, rfl, trivial⟩), fun _ => ⟨_, (ev_var rfl).toP (P := (· = Datum.toD x)) rfl, fun e' q' => ⟨ys ++ [x], ?_, ?_⟩⟩, fun _ => ⟨ys, e, ?_⟩⟩
          · rw [e, q', List.map_append]
            rfl
          · rw [et]
            exact List.Sublist.append hsub (List.Sublist.refl _)
          · rw [et]
            exact List.Sublist.trans hsub (List.sublist_append_left _ _)
      · rintro d ⟨es, rfl, ⟨ys, e, hsub⟩, _⟩
        rw [List.length_map, List.length_map, List.take_length] at hsub
        exact ⟨es, rfl, ys, e, hsub⟩
      · rw [List.length_map, List.length_map]
        omega
    obtain ⟨_, ⟨_, rfl, ys, rfl, hsub⟩, E3⟩ := E3.open_ (i := 6) rfl
    refine nx1 ?_
    refine go_ret E3 (sp (c' := 5) (by decide)) (g := U fun d => ∃ ds, d = .tuple ds ∧ ∃ S : List Cell, ds = S.map Datum.toD ∧ Reg co ro S) ?_ fun v H' _ E' o => ?_
    · refine (ev_tupU (ev_if (P := (· = decide (ys ≠ []))) (ca := 0) (cb := 0 + (0 + 0) + 1) (et_test (ev_neX (x := ys) (y := []) (ev_var rfl) (ev_lst' evd_nil (Nat.zero_le _)))) (fun hb => ?_) (fun hb => ?_))).up (by decide)
      · exact (ev_var rfl : Ev _ 0 _ _ (D (.list (ys.map Datum.toD)))).toP ⟨_, rfl, ys, rfl, hsub, of_decide_eq_true hb.symm⟩
      · refine (ev_lst1U (ev_callS1 hs (ev_var rfl) (evd_cons (ev_var rfl) evd_nil) ⟨(grid co ro).map Datum.toD, fun e => grid_ne hc hro (List.map_eq_nil_iff.mp e), by rw [List.length_map]; omega, rfl, rfl⟩)).monoP ?_
        rintro d ⟨x, rfl, hx⟩
        obtain ⟨c', hc', rfl⟩ := List.mem_map.mp hx
        exact ⟨_, rfl, [c'], rfl, List.singleton_sublist.mpr hc', by simp⟩
    · refine ret_S hs rfl (fun _ h => h) (fun v d H' a b c' ⟨ds, e1, S, e2, hR⟩ => q v d H' a b c' ⟨S, ?_, hR⟩) E' o
      rw [e1, e2]
      rfl
end
end K03

set_option Elab.async false
set_option linter.all false
set_option maxRecDepth 100000
set_option maxHeartbeats 4000000
/-! The pieces in their order; the paint. -/
namespace Pc
open PySem PySem.W Lh
noncomputable def roots (S : List Cell) : List Cell := S.filter fun x => decide ((comp S x).head? = some x)
noncomputable def pcs (S : List Cell) : List (Tup Cell) := (roots S).map fun x => Tup.mk (comp S x)
theorem comp_eq {S : List Cell} {a b : Cell} (h : Rch S a b) : comp S a = comp S b := by
  unfold comp
  refine List.filter_congr fun x _ => ?_
  rw [Bool.eq_iff_iff, rb_iff, rb_iff]
  exact ⟨fun k => h.symm.trans k, fun k => h.trans k⟩
theorem comp_cons {c : Cell} {cs : List Cell} : (comp (c :: cs) c).head? = some c := by
  unfold comp
  rw [List.filter_cons_of_pos (rb_iff.mpr (Rch.refl List.mem_cons_self))]
  rfl
/-- the rest behind a piece -/
noncomputable def off (R : List Cell) (c : Cell) : List Cell := R.filter fun x => !mem x (comp R c)
theorem mem_off {R : List Cell} {c x : Cell} : x ∈ off R c ↔ x ∈ R ∧ ¬ Rch R c x := by
  unfold off
  rw [List.mem_filter, Bool.not_eq_true', mem_no, mem_comp]
theorem rch_off {R : List Cell} {c x y : Cell} (hx : ¬ Rch R c x) : Rch R x y ↔ (¬ Rch R c y ∧ Rch (off R c) x y) := by
  refine ⟨fun h => ⟨fun k => hx (k.trans h.symm), h.sub fun z hz => mem_off.mpr ⟨hz.mem, fun k => hx (k.trans hz.symm)⟩⟩, fun ⟨_, h⟩ => ?_⟩
  exact h.sub fun z hz => (mem_off.mp hz.mem).1
theorem comp_off {R : List Cell} {c x : Cell} (hx : ¬ Rch R c x) : comp R x = comp (off R c) x := by
  unfold comp
  unfold off
  rw [List.filter_filter]
  refine List.filter_congr fun y _ => ?_
  rw [Bool.eq_iff_iff, rb_iff, Bool.and_eq_true, rb_iff, Bool.not_eq_true', mem_no, mem_comp, rch_off hx]
  unfold off
  exact ⟨fun ⟨a, b⟩ => ⟨b, a⟩, fun ⟨a, b⟩ => ⟨b, a⟩⟩
theorem pcs_nil : pcs [] = [] := rfl
theorem pcs_step {c : Cell} {cs : List Cell} (h : Ris (c :: cs)) : pcs (c :: cs) = Tup.mk (comp (c :: cs) c) :: pcs (off (c :: cs) c) := by
  have hc : c ∈ c :: cs := List.mem_cons_self
  have h1 : c ∉ cs := (List.nodup_cons.mp h.nodup).1
  have e1 : roots (c :: cs) = c :: roots (off (c :: cs) c) := by
    show List.filter _ (c :: cs) = _
    rw [List.filter_cons_of_pos (p := fun x => decide ((comp (c :: cs) x).head? = some x)) (decide_eq_true comp_cons)]
    congr 1
    have eo : off (c :: cs) c = cs.filter fun x => !mem x (comp (c :: cs) c) := by
      show List.filter _ _ = _
      rw [List.filter_cons_of_neg]
      rw [mem_iff.mpr (mem_comp.mpr (.refl hc))]
      decide
    have e2 : roots (off (c :: cs) c) = cs.filter fun x => (decide ((comp (off (c :: cs) c) x).head? = some x)) && !mem x (comp (c :: cs) c) := by
      show List.filter _ (off (c :: cs) c) = _
      conv => lhs; rw [eo]
      rw [List.filter_filter, ← eo]
    rw [e2]
    refine List.filter_congr fun x hx => ?_
    by_cases hr : Rch (c :: cs) c x
    · rw [mem_iff.mpr (mem_comp.mpr hr), ← comp_eq hr]
      rw [decide_eq_false (fun e => by
        rw [comp_cons] at e
        exact h1 (Option.some.inj e ▸ hx))]
      rw [Bool.not_true, Bool.and_false]
    · rw [mem_no.mpr (fun k => hr (mem_comp.mp k)), comp_off hr, Bool.not_false, Bool.and_true]
  unfold pcs
  rw [e1, List.map_cons]
  congr 1
  refine List.map_congr_left fun x hx => ?_
  have hx' : x ∈ off (c :: cs) c := (List.mem_filter.mp hx).1
  rw [comp_off (mem_off.mp hx').2]
theorem off_ris {R : List Cell} {c : Cell} (h : Ris R) : Ris (off R c) := h.filter _
theorem off_len {c : Cell} {cs : List Cell} : (off (c :: cs) c).length ≤ cs.length := by
  unfold off
  rw [List.filter_cons_of_neg]
  · exact List.length_filter_le _ _
  · rw [mem_iff.mpr (mem_comp.mpr (.refl List.mem_cons_self))]
    decide

/-! ### first places -/
theorem idx_ne {c x : Cell} {cs : List Cell} (h : c ≠ x) : (c :: cs).idxOf x = cs.idxOf x + 1 := by
  rw [List.idxOf_cons, beq_eq_false_iff_ne.mpr h]
  rfl
theorem idx_lt : ∀ {S : List Cell}, S.Nodup → S.Pairwise fun a b => S.idxOf a < S.idxOf b
  | [], _ => .nil
  | c :: cs, h => by
    obtain ⟨h1, h2⟩ := List.nodup_cons.mp h
    refine List.pairwise_cons.mpr ⟨fun b hb => ?_, ?_⟩
    · rw [List.idxOf_cons_self, idx_ne (fun e : c = b => h1 (e ▸ hb))]
      exact Nat.succ_pos _
    · refine (idx_lt h2).imp_of_mem fun {a b} ha hb k => ?_
      rw [idx_ne (fun e : c = a => h1 (e ▸ ha)), idx_ne (fun e : c = b => h1 (e ▸ hb))]
      exact Nat.succ_lt_succ k
theorem idx_inj {S : List Cell} {a b : Cell} (ha : a ∈ S) (h : S.idxOf a = S.idxOf b) : a = b := by
  have hl := List.idxOf_lt_length_of_mem ha
  have e1 : S[S.idxOf a] = a := List.getElem_idxOf hl
  have hl2 : S.idxOf b < S.length := h ▸ hl
  have e2 : S[S.idxOf b] = b := List.getElem_idxOf hl2
  rw [← e1, ← e2]
  congr 1
theorem first_idx (p : Cell → Bool) : ∀ {S : List Cell} {r x : Cell}, (S.filter p).head? = some r → x ∈ S → p x = true → S.idxOf r ≤ S.idxOf x
  | [], _, _, h, _, _ => by simp at h
  | c :: cs, r, x, h, hx, hp => by
    by_cases hc : p c = true
    · rw [List.filter_cons_of_pos hc] at h
      have e : c = r := Option.some.inj h
      rw [← e, List.idxOf_cons_self]
      exact Nat.zero_le _
    · rw [List.filter_cons_of_neg hc] at h
      have hr : p r = true := (List.mem_filter.mp (List.mem_of_mem_head? h)).2
      have nx : c ≠ x := fun e => hc (e ▸ hp)
      have nr : c ≠ r := fun e => hc (e ▸ hr)
      rw [idx_ne nr, idx_ne nx]
      refine Nat.succ_le_succ (first_idx p h ?_ hp)
      rcases List.mem_cons.mp hx with e | m
      · exact absurd e.symm nx
      · exact m
theorem root_of {S : List Cell} {c : Cell} (hc : c ∈ S) : ∃ r, r ∈ roots S ∧ Rch S r c := by
  have hm : c ∈ comp S c := mem_comp.mpr (.refl hc)
  cases e : (comp S c).head? with
  | none =>
    rw [List.head?_eq_none_iff] at e
    rw [e] at hm
    exact absurd hm (by simp)
  | some r =>
    have hr : Rch S c r := mem_comp.mp (List.mem_of_mem_head? e)
    refine ⟨r, List.mem_filter.mpr ⟨hr.mem, decide_eq_true ?_⟩, hr.symm⟩
    rw [← comp_eq hr]
    exact e
theorem root_least {S : List Cell} {r x : Cell} (hr : r ∈ roots S) (h : Rch S r x) : S.idxOf r ≤ S.idxOf x := by
  have hd := of_decide_eq_true (List.mem_filter.mp hr).2
  exact first_idx _ hd h.mem (rb_iff.mpr h)

/-! ### the paint -/
def nb2 (c : Cell) : List Cell := [(c.1 + 1, c.2), (c.1, c.2 + 1), (c.1 - 1, c.2), (c.1, c.2 - 1)]
theorem nb2_iff {a b : Cell} : b ∈ nb2 a ↔ b ∈ nbs a := by
  obtain ⟨a1, a2⟩ := a
  obtain ⟨b1, b2⟩ := b
  simp only [nb2, nbs, List.mem_cons, List.not_mem_nil, or_false, Prod.mk.injEq]
  omega
def setP (F : Cell → Int) (c : Cell) (v : Int) : Cell → Int := fun x => if x = c then v else F x
structure PInv (S : List Cell) (F : Cell → Int) : Prop where
  lab : ∀ c ∈ S, ∃ s, Rch S c s ∧ F c = S.idxOf s
  low : ∀ c ∈ S, F c ≤ S.idxOf c
def Stable (S : List Cell) (F : Cell → Int) : Prop := ∀ c ∈ S, ∀ x ∈ nb2 c, x ∈ S → ¬ F x < F c
theorem PInv.start {S : List Cell} : PInv S fun c => (S.idxOf c : Nat) := ⟨fun c hc => ⟨c, .refl hc, rfl⟩, fun c _ => Int.le_refl _⟩
theorem PInv.set {S : List Cell} {F : Cell → Int} (h : PInv S F) {c x : Cell} (hc : c ∈ S) (hx : x ∈ S) (hn : x ∈ nb2 c) (hl : F x < F c) : PInv S (setP F c (F x)) := by
  refine ⟨fun y hy => ?_, fun y hy => ?_⟩
  · unfold setP
    split
    · rename_i e
      subst e
      obtain ⟨s, hs, e⟩ := h.lab x hx
      exact ⟨s, ((Rch.refl hc).step (nb2_iff.mp hn) hx).trans hs, e⟩
    · exact h.lab y hy
  · unfold setP
    split
    · rename_i e
      subst e
      have := h.low y hy
      omega
    · exact h.low y hy
def wt (S : List Cell) (F : Cell → Int) : Nat := (S.map fun c => (F c).toNat).sum
theorem PInv.nn {S : List Cell} {F : Cell → Int} (h : PInv S F) {c : Cell} (hc : c ∈ S) : 0 ≤ F c := by
  obtain ⟨s, _, e⟩ := h.lab c hc
  omega
theorem wt_set {F : Cell → Int} {c : Cell} {v : Int} (h0 : 0 ≤ v) (hl : v < F c) : ∀ {S : List Cell}, c ∈ S → S.Nodup → wt S (setP F c v) < wt S F
  | [], h, _ => absurd h (by simp)
  | d :: S, h, hn => by
    obtain ⟨h1, h2⟩ := List.nodup_cons.mp hn
    show (setP F c v d).toNat + wt S (setP F c v) < (F d).toNat + wt S F
    by_cases e : d = c
    · subst e
      have e2 : wt S (setP F d v) = wt S F := by
        unfold wt
        congr 1
        refine List.map_congr_left fun x hx => ?_
        show (if x = d then v else F x).toNat = _
        rw [if_neg (fun z : x = d => h1 (z ▸ hx))]
      have e3 : setP F d v d = v := if_pos rfl
      rw [e2, e3]
      omega
    · have e3 : setP F c v d = F d := if_neg e
      rw [e3]
      have := wt_set h0 hl (S := S) (by
        rcases List.mem_cons.mp h with z | z
        · exact absurd z.symm e
        · exact z) h2
      omega
theorem stable_val {S : List Cell} {F : Cell → Int} (h : PInv S F) (hs : Stable S F) {r c : Cell} (hr : r ∈ roots S) (hc : Rch S r c) : F c = S.idxOf r := by
  have const : ∀ {a b : Cell}, Rch S a b → F a = F b := by
    intro a b k
    induction k with
    | refl _ => rfl
    | step h1 hn hm ih =>
      have k1 := hs _ h1.mem _ (nb2_iff.mpr hn) hm
      have k2 := hs _ hm _ (nb2_iff.mpr (nbs_symm hn)) h1.mem
      omega
  rw [← const hc]
  have hrS : r ∈ S := (List.mem_filter.mp hr).1
  obtain ⟨s, h1, h2⟩ := h.lab r hrS
  have h3 := root_least hr h1
  have h4 := h.low r hrS
  omega
theorem ints_eq : ∀ {a b : List Int}, a.Pairwise (· < ·) → b.Pairwise (· < ·) → (∀ x, x ∈ a ↔ x ∈ b) → a = b
  | [], [], _, _, _ => rfl
  | [], r :: R, _, _, h => absurd ((h r).mpr List.mem_cons_self) (by simp)
  | s :: S, [], _, _, h => absurd ((h s).mp List.mem_cons_self) (by simp)
  | s :: S, r :: R, hs, hr, h => by
    obtain ⟨s1, s2⟩ := List.pairwise_cons.mp hs
    obtain ⟨r1, r2⟩ := List.pairwise_cons.mp hr
    have e : s = r := by
      rcases List.mem_cons.mp ((h s).mp List.mem_cons_self) with e | m
      · exact e
      · rcases List.mem_cons.mp ((h r).mpr List.mem_cons_self) with e | m'
        · exact e.symm
        · have := r1 s m
          have := s1 r m'
          omega
    subst e
    congr 1
    refine ints_eq s2 r2 fun x => ⟨fun m => ?_, fun m => ?_⟩
    · rcases List.mem_cons.mp ((h x).mp (List.mem_cons_of_mem _ m)) with e | q
      · subst e
        have := s1 _ m
        omega
      · exact q
    · rcases List.mem_cons.mp ((h x).mpr (List.mem_cons_of_mem _ m)) with e | q
      · subst e
        have := r1 _ m
        omega
      · exact q
/-- the colours are the roots' places, each colour's cells a piece -/
theorem painted {S : List Cell} {F : Cell → Int} (hS : Ris S) (h : PInv S F) (hs : Stable S F) {us : List Int} (hu : us.Pairwise (· < ·)) (hm : ∀ k, k ∈ us ↔ k ∈ S.map F) :
    us.map (fun k => Tup.mk (S.filter fun c => decide (F c = k))) = pcs S := by
  have e : us = (roots S).map fun r => (S.idxOf r : Int) := by
    refine ints_eq hu ?_ fun k => ?_
    · rw [List.pairwise_map]
      refine (List.Pairwise.sublist List.filter_sublist (idx_lt hS.nodup)).imp fun k => ?_
      omega
    · rw [hm, List.mem_map, List.mem_map]
      refine ⟨fun ⟨c, hc, e⟩ => ?_, fun ⟨r, hr, e⟩ => ?_⟩
      · obtain ⟨r, hr, hrc⟩ := root_of hc
        exact ⟨r, hr, by rw [← e, stable_val h hs hr hrc]⟩
      · have hrS : r ∈ S := (List.mem_filter.mp hr).1
        exact ⟨r, hrS, by rw [← e, stable_val h hs hr (.refl hrS)]⟩
  rw [e, List.map_map]
  unfold pcs
  refine List.map_congr_left fun r hr => ?_
  show Tup.mk _ = Tup.mk _
  congr 1
  unfold comp
  refine List.filter_congr fun c hc => ?_
  rw [Bool.eq_iff_iff, rb_iff, decide_eq_true_iff]
  refine ⟨fun k => ?_, fun k => stable_val h hs hr k⟩
  obtain ⟨r', hr', hrc⟩ := root_of hc
  have h1 := stable_val h hs hr' hrc
  have hrS : r ∈ S := (List.mem_filter.mp hr).1
  have k' : F c = (S.idxOf r : Int) := k
  have e : r = r' := idx_inj hrS (by omega)
  rw [e]
  exact hrc
/-- the pieces come rising -/
theorem pcs_sorted {S : List Cell} (hS : Ris S) : (pcs S).mergeSort leX = pcs S := by
  refine List.mergeSort_of_pairwise ?_
  unfold pcs
  rw [List.pairwise_map]
  have h1 : (roots S).Pairwise fun a b => DatumOrd.lt a b = true := hS.filter _
  refine h1.imp_of_mem fun {a b} ha hb k => ?_
  have ea := of_decide_eq_true (List.mem_filter.mp ha).2
  have eb := of_decide_eq_true (List.mem_filter.mp hb).2
  have hd : ∀ {c : Cell}, (comp S c).head? = some c → ∃ xs, comp S c = c :: xs := fun {c} e => by
    cases q : comp S c with
    | nil => rw [q] at e; cases e
    | cons x xs => rw [q] at e; cases e; exact ⟨xs, rfl⟩
  obtain ⟨xs, ca⟩ := hd ea
  obtain ⟨ys, cb⟩ := hd eb
  rw [ca, cb]
  unfold leX
  have ne : ¬ b = a := fun e => by
    subst e
    exact cl_irr _ k
  show (!(if b = a then listLt ys xs else DatumOrd.lt b a)) = true
  rw [if_neg ne]
  cases e : DatumOrd.lt b a with
  | false => rfl
  | true => exact absurd (cl_trans k e) (cl_irr _)
end Pc

set_option Elab.async false
set_option linter.all false
set_option maxRecDepth 100000
set_option maxHeartbeats 4000000
namespace K03
open PySem PySem.Spec PyProof.Rows L2 PySem.W Lh Pc
local macro_rules | `(tactic| walk_at "nx") => `(tactic| first | with_reducible refine nxs ?_ | with_reducible refine seq ?_ | with_reducible refine nx1 ?_ | with_reducible refine nx0 ?_)
section
variable {P : Program} {w : World} {K : Frag} {mg : Str → Option Value} {base : Heap}
abbrev s_pieces : Stmt := topS 2
abbrev N_pieces : List Str := ["cells", "found", "rest", "piece"]
theorem sc_pieces : FnScope N_pieces ["cells"] (defScope s_pieces) := ⟨rfl, rfl, rfl, by decide +kernel, rfl, by decide +kernel, by decide +kernel⟩
def R_pieces (ds es : List PyData) : Prop := ∃ S : List Cell, Ris S ∧ S.length ≤ 100000 ∧ ds = [Datum.toD (Tup.mk S)] ∧ es = (pcs S).map Datum.toD
theorem ok_pieces {f fP fL : Addr} {fd fdP fdL : FuncData} (T : Tb mg) (O : Own K mg "pieces" s_pieces f fd ["cells"]) (O_piece_from : Own K mg "_piece_from" s_piece_from fP fdP ["start", "cells"]) (O_less : Own K mg "less" s_less fL fdL ["one", "other"]) :
    FnOk P w K mg base CX0 2 f fd ["cells"] (spL R_pieces) := by
  have nd := sc_pieces.nd
  have G_piece_from : FnOk P w K mg base CX0 1 fP fdP ["start", "cells"] (spD R_piece_from) := ok_piece_from T O_piece_from
  have G_less : FnOk P w K mg base CX0 1 fL fdL ["one", "other"] (spD R_less) := ok_less T O_less
  refine O.F.ok sc_pieces (fun vs H Q E h => ?_) (fun cdv A outer s H vs Q E hr h => ?_)
  · obtain ⟨A, ds, es, hd, _, ⟨S, _, _, rfl, _⟩, _⟩ := h
    exact hd.length
  · obtain ⟨A, ds, es, hd, ht, ⟨S, hS, hz, rfl, rfl⟩, q⟩ := h
    have hu := hu_of hr
    refine ⟨_, (pss_cons (ps_set (i := 1) nd rfl (Or.inl rfl) (pe_lst pa_nil))
      (pss_cons (ps_set (i := 2) nd rfl (Or.inl rfl) (pv 0))
      (pss_cons (ps_while PassesOwn.never (pt_cmpR op_gt (pe_callB (k_len K) (by rfl) T.z_len (by decide +kernel) (pa_cons (pv 2) pa_nil)) pe_int (nomark _))
      (pss_cons (ps_set (i := 3) nd rfl (Or.inl rfl) (pe_call G_piece_from (hr.mono (by decide)) (by rfl) O_piece_from.g O_piece_from.F.kp O_piece_from.b .nil pass0 (pa_cons (pe_ix (k_ixT K) (pv 2) pe_int (fun _ _ => rfl)) (pa_cons (pv 2) pa_nil))))
      (pss_cons (ps_expr (k_bm K PySem.F.plainAttrs_list PySem.F.slot_list_append PySem.F.type_list_append mt_append (pv 1) (pa_cons (pv 3) pa_nil)))
      (pss_one (ps_set (i := 2) nd rfl (Or.inl rfl) (pe_call G_less (hr.mono (by decide)) (by rfl) O_less.g O_less.F.kp O_less.b .nil pass0 (pa_cons (pv 2) (pa_cons (pv 3) pa_nil))))))))
      (pss_one (ps_ret (pv 1)))))), ?_⟩
    have E0 := env_start (N := N_pieces) hd ht
    walk_at "nx"
    refine go_box0 (ds := []) E0 ⟨_, evd_nil⟩ (Nat.zero_le _) fun p σ1 H1 nb1 nA1 nM1 E1 => ?_
    walk_at "nx"
    refine go_set0 (g := J (Tup.mk S)) E1 ⟨_, ev_var rfl⟩ fun σ2 H2 E2 => ?_
    walk_at "nx"
    refine go_while0 E2 (fun n Γ => ∃ (dn : List (Tup Cell)) (R : List Cell) (o : Option Ag), Ris R ∧ R.length ≤ S.length ∧ n = R.length ∧ dn.length + R.length ≤ S.length ∧ dn ++ pcs R = pcs S ∧ (∀ z b, o ≠ some (.box z b)) ∧ Γ = [some (J (Tup.mk S)), some (Bxl p dn), some (J (Tup.mk R)), o])
      ⟨[], S, none, hS, Nat.le_refl _, rfl, by simp, rfl, fun z b e => (nomatch e), rfl⟩ ?_
    rintro n _ ⟨dn, R, o, hR, hl, rfl, hl2, he, ho, rfl⟩
    refine ⟨_, ⟨_, et_test (ev_opI0 (ev_lenJT (xs := R) (ev_var rfl)) (ev_c (Sc.int _)) (Sc.bl _))⟩, fun hc σ3 H3 E3 => ?_, fun hc σ3 H3 E3 => ?_⟩
    · obtain ⟨c, cs, rfl⟩ : ∃ c cs, R = c :: cs := by
        cases R with
        | nil => exact absurd hc (by decide)
        | cons c cs => exact ⟨c, cs, rfl⟩
      walk_at "nx"
      refine go_set0 (g := J (Tup.mk (comp (c :: cs) c))) E3 ⟨_, ev_call' (evd_cons (ev_ixJT (x := c) (xs := c :: cs) (i := 0) (ev_var rfl) (ev_c (Sc.int _)) (atI_nat (j := 0) rfl)) (evd_cons (ev_var rfl) evd_nil)) ⟨c, c :: cs, hR, by omega, List.mem_cons_self, rfl, rfl⟩⟩ fun σ4 H4 E4 => ?_
      walk_at "nx"
      refine go_appendX0 (x := Tup.mk (comp (c :: cs) c)) E4 rfl ⟨_, ev_var rfl⟩ (lt_line (by omega)) (.im (.none (.im (.im .nil)))) fun H5 E5 => ?_
      walk_at "nx"
      refine go_set0 (g := J (Tup.mk (off (c :: cs) c))) E5 ⟨_, ev_call' (evd_cons (ev_var rfl) (evd_cons (ev_var rfl) evd_nil)) ⟨c :: cs, comp (c :: cs) c, le_line (by omega), rfl, rfl⟩⟩ fun σ6 H6 E6 => ?_
      have ol := off_len (c := c) (cs := cs)
      have el : (c :: cs).length = cs.length + 1 := rfl
      refine ⟨_, _, _, ?_, ⟨dn ++ [Tup.mk (comp (c :: cs) c)], off (c :: cs) c, _, off_ris hR, by omega, rfl, ?_, ?_, fun z b e => ?_, rfl⟩, E6⟩
      · omega
      · rw [List.length_append]
        have : ([Tup.mk (comp (c :: cs) c)] : List (Tup Cell)).length = 1 := rfl
        omega
      · rw [← he, pcs_step hR, List.append_assoc]
        rfl
      · cases e
    · have hw : R = [] := by
        cases R with
        | nil => rfl
        | cons x w =>
          exfalso
          have := of_decide_eq_false hc.symm
          rw [List.length_cons] at this
          omega
      subst hw
      rw [pcs_nil, List.append_nil] at he
      subst he
      walk_at "nx"
      refine go_ret0 E3 ⟨_, ev_var rfl⟩ fun v H' E' o => ?_
      obtain ⟨rfl, h1, _, h3, ob, h4, xs, rfl, h5⟩ := o
      exact q p xs H' (fun a o e => E'.fr a o e id) h3 h4 h5
abbrev s_both : Stmt := topS 3
abbrev N_both : List Str := ["one", "other"]
theorem sc_both : FnScope N_both ["one", "other"] (defScope s_both) := ⟨rfl, rfl, rfl, by decide +kernel, rfl, by decide +kernel, by decide +kernel⟩
def un (a b : List Cell) : List Cell := (a ++ b.filter fun x => !mem x a).mergeSort leX
def R_both (ds : List PyData) (d : PyData) : Prop := ∃ a b : List Cell, a.length ≤ 1000 ∧ b.length ≤ 1000 ∧ ds = [Datum.toD (Tup.mk a), Datum.toD (Tup.mk b)] ∧ d = Datum.toD (Tup.mk (un a b))
theorem ok_both {f fL : Addr} {fd fdL : FuncData} (T : Tb mg) (O : Own K mg "both" s_both f fd ["one", "other"]) (O_less : Own K mg "less" s_less fL fdL ["one", "other"]) :
    FnOk P w K mg base CX0 2 f fd ["one", "other"] (spD R_both) := by
  have nd := sc_both.nd
  have G_less : FnOk P w K mg base CX0 1 fL fdL ["one", "other"] (spD R_less) := ok_less T O_less
  refine O.F.ok sc_both (fun vs H Q E h => ?_) (fun cdv A outer s H vs Q E hr h => ?_)
  · obtain ⟨A, ds, d, hd, _, ⟨a, b, _, _, rfl, _⟩, _⟩ := h
    exact hd.length
  · obtain ⟨A, ds, d, hd, ht, ⟨a, b, ha, hb, rfl, rfl⟩, q⟩ := h
    have hu := hu_of hr
    refine ⟨_, (pss_one (ps_ret (pe_callTy (k_tuple K) (by rfl) T.z_tuple (by decide +kernel) (pa_cons (pe_callB (k_sorted K hr.units) (by rfl) T.z_sorted (by decide +kernel) (pa_cons (pe_lst (k_star K (pv 0) (k_star K (pe_call G_less (hr.mono (by decide)) (by rfl) O_less.g O_less.F.kp O_less.b .nil pass0 (pa_cons (pv 1) (pa_cons (pv 0) pa_nil))) pa_nil))) pa_nil)) pa_nil)))), ?_⟩
    have E0 := env_start (N := N_both) hd ht
    have hf : (b.filter fun x => !mem x a).length ≤ b.length := List.length_filter_le _ _
    refine go_ret0 (g := J (Tup.mk (un a b))) E0 ⟨_, ev_tupJL (ev_sortX ((ev_lst' (evd_star (ds := a.map Datum.toD) (ev_var rfl) (evd_star (ds := (b.filter fun x => !mem x a).map Datum.toD) (ev_call' (evd_cons (ev_var rfl) (evd_cons (ev_var rfl) evd_nil)) ⟨b, a, le_line (by omega), rfl, rfl⟩) evd_nil)) ?_).eq ?_) (.inl fun x _ => ⟨_, _, rfl⟩))⟩ fun v H' E' o => ?_
    · rw [List.length_append, List.length_append, List.length_map, List.length_map]
      exact le_line (by show _ + (_ + 0) ≤ _; omega)
    · rw [List.append_nil, ← List.map_append]
      rfl
    · exact ret_D rfl (fun _ h => h) (fun _ h => h) q E' o
end
end K03

set_option Elab.async false
set_option linter.all false
set_option maxRecDepth 100000
set_option maxHeartbeats 4000000
/-! The paint as a dict; what stands there. -/
namespace Pc
open PySem PySem.Spec PyProof.Rows L2 PySem.W Lh
def kc (c : Cell) : List L2.Key := [.inl c.1, .inl c.2]
theorem kc_inj {a b : Cell} (h : kc a = kc b) : a = b := by
  obtain ⟨a1, a2⟩ := a
  obtain ⟨b1, b2⟩ := b
  unfold kc at h
  simp only [List.cons.injEq, Sum.inl.injEq, and_true] at h
  rw [h.1, h.2]
def pdict (S : List Cell) (F : Cell → Int) : List (List L2.Key × V) := S.map fun c => (kc c, V.int (F c))
theorem val_pd {F : Cell → Int} {c : Cell} : ∀ {S : List Cell}, valV (pdict S F) (kc c) = if mem c S = true then some (.int (F c)) else none
  | [] => rfl
  | d :: S => by
    by_cases e : d = c
    · subst e
      rw [if_pos (mem_iff.mpr List.mem_cons_self)]
      exact valV_pos rfl
    · have e2 : valV (pdict (d :: S) F) (kc c) = valV (pdict S F) (kc c) := valV_neg fun q => e (kc_inj q)
      rw [e2, val_pd]
      have e3 : mem c (d :: S) = mem c S := by
        rw [Bool.eq_iff_iff, mem_iff, mem_iff, List.mem_cons]
        exact ⟨fun h => h.elim (fun q => absurd q.symm e) id, .inr⟩
      rw [e3]
theorem put_pd {S : List Cell} {F : Cell → Int} {c : Cell} {v : Int} (h : c ∈ S) : putK (pdict S F) (kc c) (.int v) = pdict S (setP F c v) := by
  unfold putK
  rw [valV_any, val_pd, if_pos (mem_iff.mpr h)]
  show ((pdict S F).map fun kv => if kv.1 = kc c then (kv.1, V.int v) else kv) = _
  unfold pdict
  rw [List.map_map]
  refine List.map_congr_left fun x _ => ?_
  show (if kc x = kc c then (kc x, V.int v) else (kc x, V.int (F x))) = (kc x, V.int (setP F c v x))
  unfold setP
  by_cases e : x = c
  · rw [if_pos (by rw [e]), if_pos e]
  · rw [if_neg (fun q => e (kc_inj q)), if_neg e]
theorem pd_len {S : List Cell} {F : Cell → Int} : (pdict S F).length = S.length := List.length_map ..
theorem cell_at {A : Addr → Prop} {H : Hp} {v : V} {c : Cell} (h : Dq A H v (Datum.toD c)) : ∃ b, v = .ref b ∧ H b = some (.tup ((kc c).map kV)) := by
  obtain ⟨b, xs, rfl, h1, _, h3⟩ := Dq.tuple (show Dq A H v (.tuple [.int c.1, .int c.2]) from h)
  cases h3 with
  | cons a1 h4 =>
    cases h4 with
    | cons a2 h5 =>
      cases h5
      cases a1
      cases a2
      exact ⟨b, rfl, h1⟩
/-- the pairs that a dict is made of -/
theorem pairs_at {A : Addr → Prop} {H : Hp} : ∀ {xs : List V} {ps : List (Cell × Int)}, DqA A H xs (ps.map Datum.toD) →
    ∃ qs : List (Addr × Addr), xs = qs.map (fun p => V.ref p.1) ∧ Paired (fun p (kv : List L2.Key × V) => H p.1 = some (.tup [.ref p.2, kv.2]) ∧ H p.2 = some (.tup (kv.1.map kV))) qs (ps.map fun q => (kc q.1, V.int q.2))
  | _, [], .nil => ⟨[], rfl, .nil⟩
  | _, p :: ps, .cons h t => by
    obtain ⟨qs, rfl, hq⟩ := pairs_at t
    obtain ⟨b, ys, rfl, h1, _, h3⟩ := Dq.tuple (show Dq A H _ (.tuple [Datum.toD p.1, .int p.2]) from h)
    cases h3 with
    | cons a1 h4 =>
      cases h4 with
      | cons a2 h5 =>
        cases h5
        cases a2
        obtain ⟨b2, rfl, h6⟩ := cell_at a1
        exact ⟨(b, b2) :: qs, rfl, .cons ⟨h1, h6⟩ hq⟩
section
variable {m : Md} {k r c ce ca cb : Nat} {Γ : Gam} {σ : L2.St} {H : Hp} {te ta tb ti : TE} {K : Frag} {De : Ends} {p : Addr} {S : List Cell} {F : Cell → Int}
abbrev Pb (p : Addr) (S : List Cell) (F : Cell → Int) : Ag := .box p (bO (.dT (pdict S F)))
/-- dict(..) of pairs, a box -/
theorem go_dict {i : Nat} {ps : List (Cell × Int)} (E : Env m k Γ σ H) (hs : m.Spend k c r) (h : Ev m c te Γ (J ps)) (hn : (ps.map (·.1)).Nodup) (hl : ps.length ≤ 100000) (he : ps.map (fun q => (kc q.1, V.int q.2)) = pdict S F)
    (q : ∀ p σ' H', NoBox p Γ → ¬ m.A p → ¬ m.M p → Env (m.add p) r (Γ.set i (some (Pb p S F))) σ' H' → De.nx σ' H') : tAsg (tCB (rDictPT K) (tCons te tNil)) (gName i) De σ H :=
  h σ H (E.lend hs) _ fun v H1 s o => by
    have E1 := E.pay s hs
    obtain ⟨a, xs, rfl, h1, _, h3⟩ := Dq.list (show Dq m.A H1 v (.list (ps.map Datum.toD)) from o)
    obtain ⟨qs, rfl, hq⟩ := pairs_at h3
    refine ⟨a, qs, _, rfl, .inl (.inl h1), hq, ?_, by rw [List.length_map]; exact hl, fun p hp => ?_⟩
    · rw [List.map_map]
      have e : (fun q : Cell × Int => kc q.1) = kc ∘ (·.1) := rfl
      show (ps.map fun q => kc q.1).Nodup
      rw [e, ← List.map_map]
      exact List.Pairwise.map _ (fun a b hab z => hab (kc_inj z)) hn
    · rw [he]
      exact q p _ _ (E1.noBox hp) (E1.free hp) (E1.freeM hp) ((E1.made hp).set ⟨rfl, .inr rfl, E1.freeM hp, E1.free0 hp, _, upd_same, rfl⟩)
theorem ev_din {x : Cell} (hx : Ev m ca ta Γ (J x)) (hd : Ev m cb tb Γ (Pb p S F)) : Ev m (ca + cb) (tDIn ta tb) Γ (D (.bool (mem x S))) := fun σ H E Q q =>
  hx σ H E.le _ fun v H1 s1 o1 => hd σ H1 (E.step s1) _ fun y H2 s2 o2 => by
    obtain ⟨rfl, _, _, _, o, ho, rfl⟩ := o2
    obtain ⟨b, rfl, hb⟩ := cell_at (Ag.step (g := J x) s2 E.sub o1)
    refine ⟨p, _, rfl, DGet.t ho hb, ?_⟩
    rw [val_pd]
    have e : (if mem x S = true then some (V.int (F x)) else none).isSome = mem x S := by
      cases mem x S <;> rfl
    rw [e]
    exact q _ H2 (s1.trans s2) (.bl _)
theorem ev_dget {x : Cell} (hd : Ev m ca ta Γ (Pb p S F)) (hx : Ev m cb tb Γ (J x)) (hm : x ∈ S) : Ev m (ca + cb) (tDGet ta tb) Γ (D (.int (F x))) := fun σ H E Q q =>
  hd σ H E.le _ fun y H1 s1 o1 => hx σ H1 (E.step s1) _ fun v H2 s2 o2 => by
    obtain ⟨rfl, _, _, _, o, ho, rfl⟩ := Ag.step (g := Pb p S F) s2 E.sub o1
    obtain ⟨b, rfl, hb⟩ := cell_at o2
    have g := DGet.t ho hb
    rw [val_pd, if_pos (mem_iff.mpr hm)] at g
    exact ⟨p, _, rfl, g, q _ H2 (s1.trans s2) (.int _)⟩
/-- sorted(set(..)) of a list of ints -/
theorem ev_sortedSet {w : World} {ns : List Int} (h : Ev m ce te Γ (J ns)) (hn : ns.length < 64) : Ev m ce (tCB (rSortedSet w) (tCons (tCB (rSetLI K w) (tCons te tNil)) tNil)) Γ (U fun d => ∃ us : List Int, d = Datum.toD us ∧ us.Pairwise (· < ·) ∧ ∀ z, z ∈ us ↔ z ∈ ns) := fun σ H E Q q =>
  h σ H E _ fun v H1 s o => by
    obtain ⟨a, xs, rfl, h1, _, h3⟩ := Dq.list (show Dq m.A H1 v (.list (ns.map PyData.int)) from o)
    have ex := DqA.ints h3
    subst ex
    have E1 : Env m 0 Γ σ H1 := E.step s
    refine ⟨a, ns, rfl, .inl (.inl h1), by omega, fun b n hb hle => ⟨b, _, n, rfl, upd_same, by omega, fun us p hp hm hl hnp => ?_⟩⟩
    have E2 : Env m 0 Γ σ (upd H1 b (SetO w b (fun j => decide (j ∈ ns)) n)) := E1.step (Stp.new hb)
    refine q (.ref p) _ ((s.trans (Stp.new hb)).trans (Stp.new hnp)).le ⟨Datum.toD us, ?_, us, rfl, hp, fun z => ?_⟩
    · exact Dq.newL (E2.free hnp) hnp (DqA.of_ints (ns := us))
    · rw [hm, decide_eq_true_iff]
/-- paint[cell], more = (v, True) -/
theorem go_paint {ip ic im : Nat} {x : Cell} {v : Int} {ts : TA} (E : Env m k Γ σ H) (hs : m.Spend k c r) (h : EvDs m c ts Γ [.int v, .bool true]) (hp : Γ[ip]? = some (some (Pb p S F))) (hc : Γ[ic]? = some (some (J x))) (hx : x ∈ S) (hl : S.length ≤ 100000) (hb : NoBox p (Γ.set ip none))
    (q : ∀ σ' H', Env m r ((Γ.set ip (some (Pb p S (setP F x v)))).set im (some (D (.bool true)))) σ' H' → De.nx σ' H') :
    tAsg (tTup ts) (gTup K 2 (gCons (gSub (tVar ip) (tVar ic) rSetD) (gCons (gName im) gNil))) De σ H :=
  (ev_tup' h (Nat.le_of_ble_eq_true rfl)) σ H (E.lend hs) _ fun t H1 s o => by
    have E1 := E.pay s hs
    obtain ⟨a, xs, rfl, h1, _, h3⟩ := Dq.tuple o
    cases h3 with
    | cons a1 h4 =>
      cases h4 with
      | cons a2 h5 =>
        cases h5
        cases a1
        cases a2
        obtain ⟨_, e1, rfl, g2, g3, g4, ob, g5, rfl⟩ := E1.sl ip _ hp
        obtain ⟨w, e2, o2⟩ := E1.sl ic _ hc
        obtain ⟨b, rfl, hb2⟩ := cell_at o2
        refine ⟨a, _, rfl, .inl (.inl h1), rfl, _, _, rfl, _, e1, _, e2, p, _, rfl, DPut.t g5 hb2 (by rw [pd_len]; exact lt_line hl), _, _, rfl, rfl, ?_⟩
        rw [put_pd hx]
        exact q _ _ ((E1.rebox (b' := bO (.dT (pdict S (setP F x v)))) (i := ip) hp hb rfl).set (g := D (.bool true)) (.bl true))
end
end Pc

set_option Elab.async false
set_option linter.all false
set_option maxRecDepth 100000
set_option maxHeartbeats 4000000
namespace Pc
open PySem PySem.Spec PyProof.Rows L2 PySem.W Lh
def prs (S : List Cell) : List (Cell × Int) := (List.range S.length).map fun k : Nat => (S.getD k (0, 0), (k : Int))
theorem prs_fst (S : List Cell) : (prs S).map (·.1) = S := by
  unfold prs
  rw [List.map_map]
  refine List.ext_getElem (by simp) fun i h1 h2 => ?_
  simp [List.getElem?_eq_getElem h2]
theorem prs_get {S : List Cell} {i : Nat} (h : i < S.length) : (prs S)[i]? = some (S[i], (i : Int)) := by
  unfold prs
  rw [List.getElem?_map, List.getElem?_range h]
  show some (S.getD i (0, 0), (i : Int)) = _
  rw [List.getD_eq_getElem?_getD, List.getElem?_eq_getElem h]
  rfl
theorem prs_len (S : List Cell) : (prs S).length = S.length := by
  unfold prs
  rw [List.length_map, List.length_range]
theorem prs_dict {S : List Cell} (hn : S.Nodup) : (prs S).map (fun q => (kc q.1, V.int q.2)) = pdict S fun c => (S.idxOf c : Nat) := by
  unfold pdict
  refine List.ext_getElem? fun i => ?_
  rw [List.getElem?_map, List.getElem?_map]
  by_cases h : i < S.length
  · rw [prs_get h, List.getElem?_eq_getElem h]
    show some (kc S[i], V.int (i : Int)) = some (kc S[i], V.int ((S.idxOf S[i] : Nat) : Int))
    have hl : S.idxOf S[i] < S.length := List.idxOf_lt_length_of_mem (List.getElem_mem h)
    have e : S.idxOf S[i] = i := nd_ix hn (x := S[i]) (by rw [List.getElem?_eq_getElem hl, List.getElem_idxOf hl]) (List.getElem?_eq_getElem h)
    rw [e]
  · rw [List.getElem?_eq_none (by rw [prs_len]; omega), List.getElem?_eq_none (by omega)]
    rfl
def NB (o : Option Ag) : Prop := ∀ z b, o ≠ some (.box z b)
theorem NB.im {f : Im} : NB (some (.im f)) := fun z b e => by cases e
theorem NB.no : NB none := fun z b e => by cases e
theorem NB.to {p : Addr} {o : Option Ag} (h : NB o) : ∀ q b, o = some (.box q b) → q ≠ p := fun q b e => absurd e (h q b)
/-- the paint's slots -/
abbrev Pg (S : List Cell) (p : Addr) (F : Cell → Int) (o3 : Option Ag) (b : Bool) (o5 o6 o7 : Option Ag) : Gam := [some (J (Tup.mk S)), some (Pb p S F), none, o3, some (D (.bool b)), o5, o6, o7, none]
theorem Pg.nb {S : List Cell} {p : Addr} {o3 o5 o6 o7 : Option Ag} {b : Bool} (h3 : NB o3) (h5 : NB o5) (h6 : NB o6) (h7 : NB o7) : NoBox p [some (J (Tup.mk S)), none, none, o3, some (D (.bool b)), o5, o6, o7, none] :=
  .im (.none (.none (.cons h3.to (.im (.cons h5.to (.cons h6.to (.cons h7.to (.none .nil))))))))
/-- one neighbour -/
structure QInv (S : List Cell) (F0 : Cell → Int) (ck : Cell → Cell → Prop) (F : Cell → Int) (b : Bool) : Prop where
  inv : PInv S F
  t : b = true → wt S F < wt S F0
  f : b = false → F = F0 ∧ ∀ c x, ck c x → ¬ F0 x < F0 c
end Pc
namespace K03
open PySem PySem.Spec PyProof.Rows L2 PySem.W Lh Pc
local macro_rules | `(tactic| walk_at "nx") => `(tactic| first | with_reducible refine nxs ?_ | with_reducible refine seq ?_ | with_reducible refine nx1 ?_ | with_reducible refine nx0 ?_)
local macro_rules | `(tactic| walk_at "ev") => `(tactic| first
  | exact ev_var rfl
  | exact ev_c (Sc.int _)
  | exact ev_c (Sc.bl _)
  | exact evd_nil
  | (apply evd_cons <;> walk_at "ev")
  | (apply ev_tup' (hl := Nat.le_of_ble_eq_true rfl) <;> walk_at "ev")
  | (apply ev_lst' (hl := Nat.le_of_ble_eq_true rfl) <;> walk_at "ev")
  | (apply ev_opI0 (hd := Sc.int _) <;> walk_at "ev")
  | (apply ev_opI0 (hd := Sc.bl _) <;> walk_at "ev"))
section
variable {P : Program} {w : World} {K : Frag} {mg : Str → Option Value} {base : Heap}
abbrev s_law_painted : Stmt := topS 11
abbrev N_law_painted : List Str := ["squares", "paint", "at", "cell", "more", "i", "j", "second", "colours"]
theorem sc_law_painted : FnScope N_law_painted ["squares"] (defScope s_law_painted) := ⟨rfl, rfl, rfl, by decide +kernel, rfl, by decide +kernel, by decide +kernel⟩

def R_painted (ds : List PyData) (d : PyData) : Prop := ∃ S : List Cell, Ris S ∧ S.length ≤ 49 ∧ ds = [Datum.toD (Tup.mk S)] ∧ d = Datum.toD (pcs S)
theorem ok_law_painted {f : Addr} {fd : FuncData} (T : Tb mg) (O : Own K mg "_law_painted" s_law_painted f fd ["squares"]) : FnOk P w K mg base CX0 1 f fd ["squares"] (spD R_painted) := by
  have nd := sc_law_painted.nd
  refine O.F.ok sc_law_painted (fun vs H Q E h => ?_) (fun cdv A outer s H vs Q E hr h => ?_)
  · obtain ⟨A, ds, d, hd, _, ⟨S, _, _, rfl, _⟩, _⟩ := h
    exact hd.length
  · obtain ⟨A, ds, d, hd, ht, ⟨S, hS, hz, rfl, rfl⟩, q⟩ := h
    have hu := hu_of hr
    refine ⟨_, (pss_cons (ps_set (i := 1) nd rfl (Or.inr rfl) (pe_callTy (cr_dictPT K hr.units) (by rfl) T.z_dict (by decide +kernel) (pa_cons (pe_lc (own := [("at", 2), ("cell", 3)]) (g := _) (tt := tYes) (by rfl) nd (k_enumT K (by rfl) T.z_enumerate (pa_cons (pv 0) pa_nil)) (blkOk_by (own := [("at", 2), ("cell", 3)]) (N := N_law_painted) (sc := defScope s_law_painted) (by decide +kernel)) (fun _ _ _ _ _ => (k_tg (n := 2) K rfl (pgs_cons (pg_name (i := 2) nd rfl (Or.inl rfl)) (pgs_cons (pg_name (i := 3) nd rfl (Or.inl rfl)) pgs_nil)))) (fun _ _ _ _ _ => pts_nil) (fun _ _ _ _ _ => (pe_tup (pa_cons (pv 3) (pa_cons (pv 2) pa_nil))))) pa_nil)))
      (pss_cons (ps_set (i := 4) nd rfl (Or.inl rfl) pe_bl)
      (pss_cons (ps_while PassesOwn.never (pt_val (pv 4))
      (pss_cons (ps_set (i := 4) nd rfl (Or.inl rfl) pe_bl)
      (pss_one (ps_for PassesOwn.never rfl (k_forT K (pv 0)) (pg_name (i := 3) nd rfl (Or.inl rfl))
      (pss_cons (ps_asg (pv 3) (k_tg K rfl (pgs_cons (pg_name (i := 5) nd rfl (Or.inl rfl)) (pgs_cons (pg_name (i := 6) nd rfl (Or.inl rfl)) pgs_nil))))
      (pss_one (ps_for PassesOwn.never rfl (k_forL K (pe_lst (pa_cons (pe_tup (pa_cons (pe_op op_add (pv 5) pe_int) (pa_cons (pv 6) pa_nil))) (pa_cons (pe_tup (pa_cons (pv 5) (pa_cons (pe_op op_add (pv 6) pe_int) pa_nil))) (pa_cons (pe_tup (pa_cons (pe_op op_sub (pv 5) pe_int) (pa_cons (pv 6) pa_nil))) (pa_cons (pe_tup (pa_cons (pv 5) (pa_cons (pe_op op_sub (pv 6) pe_int) pa_nil))) pa_nil)))))) (pg_name (i := 7) nd rfl (Or.inl rfl))
      (pss_one (ps_if (PW.pt (pw_and (pt_cmp (pc_din hu (pv 7) (pv 1))) (pw_and1 (pt_cmpR op_lt (pe_dget hu (pv 1) (pv 7) (fun _ _ => rfl)) (pe_dget hu (pv 1) (pv 3) (fun _ _ => rfl)) (nomark _)))))
      (pss_one (ps_asg (pe_tup (pa_cons (pe_dget hu (pv 1) (pv 7) (fun _ _ => rfl)) (pa_cons pe_bl pa_nil))) (k_tg K rfl (pgs_cons (pg_sub (pv 1) (pv 3) (set_dict hu)) (pgs_cons (pg_name (i := 4) nd rfl (Or.inl rfl)) pgs_nil))))) pss_nil)))))))))
      (pss_cons (ps_set (i := 8) nd rfl (Or.inl rfl) (pe_callB (k_sortedSet w) (by rfl) T.z_sorted (by decide +kernel) (pa_cons (pe_callTy (cr_setLI K w) (by rfl) T.z_set (by decide +kernel) (pa_cons (pe_lc (own := [("cell", 3)]) (g := gName 3) (tt := tYes) (by rfl) nd (k_forT K (pv 0)) (blkOk_by (own := [("cell", 3)]) (N := N_law_painted) (sc := defScope s_law_painted) (by decide +kernel)) (fun _ _ _ _ _ => (pg_name (i := 3) nd rfl (Or.inl rfl))) (fun _ _ _ _ _ => pts_nil) (fun _ _ _ _ _ => (pe_dget hu (pv 1) (pv 3) (fun _ _ => rfl)))) pa_nil)) pa_nil)))
      (pss_one (ps_ret (pe_callB (k_sorted K hr.units) (by rfl) T.z_sorted (by decide +kernel) (pa_cons (pe_lc (own := [("at", 2)]) (g := gName 2) (tt := tYes) (by rfl) nd (k_forL K (pv 8)) (blkOk_by (own := [("at", 2)]) (N := N_law_painted) (sc := defScope s_law_painted) (by decide +kernel)) (fun _ _ _ _ _ => (pg_name (i := 2) nd rfl (Or.inr rfl))) (fun _ _ _ _ _ => pts_nil) (fun _ _ _ _ _ => (pe_callTy (k_tuple K) (by rfl) T.z_tuple (by decide +kernel) (pa_cons (pe_lc (own := [("cell", 3)]) (g := gName 3) (tt := _) (by rfl) nd (k_forT K (pv 0)) (blkOk_by (own := [("cell", 3)]) (N := N_law_painted) (sc := relS { kind := .function, names := [(Str.ofString ".0", .local), (Str.ofString "at", .cell), (Str.ofString "tuple", .globalImplicit), (Str.ofString "paint", .free), (Str.ofString "squares", .free)], isGenerator := false, isCoroutine := false } (defScope s_law_painted)) (by decide +kernel)) (fun _ _ _ _ _ => (pg_name (i := 3) nd rfl (Or.inl rfl))) (fun _ _ _ _ _ => (pts_one (pt_cmpR (k_eq K hr.units) (pe_dget hu (pv 1) (pv 3) (fun _ _ => rfl)) (pv 2) (nomark _)))) (fun _ _ _ _ _ => (pv 3))) pa_nil)))) pa_nil)))))))), ?_⟩
    have E0 := env_start (N := N_law_painted) hd ht
    have hn := hS.nodup
    -- paint = dict(..)
    walk_at "nx"
    refine go_dict (ps := prs S) (S := S) (F := fun c => (S.idxOf c : Nat)) (c := 0) E0 fr ?_ (by rw [prs_fst]; exact hn) (by rw [prs_len]; omega) (prs_dict hn) fun p σ1 H1 nb1 nA1 nM1 E1 => ?_
    · have el : (enumD (S.map Datum.toD)).length = S.length := by unfold enumD; rw [List.length_map, List.length_range, List.length_map]
      refine ((ev_lc (vs := [2, 3]) (cw := 0) (ct := 0) (ce := 0) (ei_enumT (ev_var rfl)) (by rw [List.length_map, el]; exact le_line (by omega)) (fun i es => es = ((prs S).take i).map Datum.toD) rfl fun Dp i g es hg hr' => ?_).imp ?_).up (by simp)
      · rw [List.getElem?_map] at hg
        by_cases hi : i < S.length
        · have e1 : (enumD (S.map Datum.toD))[i]? = some (.tuple [.int (i : Nat), Datum.toD S[i]]) := by
            unfold enumD
            rw [List.getElem?_map, List.getElem?_range (by rw [List.length_map]; exact hi)]
            show some (PyData.tuple [.int (i : Nat), (S.map Datum.toD).getD i .none]) = _
            rw [List.getD_eq_getElem?_getD, List.getElem?_map, List.getElem?_eq_getElem hi]
            rfl
          rw [e1] at hg
          cases hg
          have et : (prs S).take (i + 1) = (prs S).take i ++ [(S[i], (i : Int))] := by rw [List.take_add_one, prs_get hi]; rfl
          refine ⟨_, [2, 3], tg_pair (by decide), fun i hi => hi, (· = true), et_yes, fun _ => ⟨(· = Datum.toD (S[i], (i : Int))), (Ev.up (c := 0 + (0 + 0)) (ev_tup' (evd_cons (ev_var rfl) (evd_cons (ev_var rfl) evd_nil)) (Nat.le_of_ble_eq_true rfl))).toP rfl, fun e' q' => ?_⟩, fun z => (nomatch z)⟩
          show es ++ [e'] = _
          rw [hr', q', et, List.map_append]
          rfl
        · rw [List.getElem?_eq_none (by rw [el]; omega)] at hg
          cases hg
      · rintro H' v ⟨d, o, es, e1, e2, _⟩
        rw [List.length_map, el] at e2
        have e3 : (prs S).take S.length = prs S := List.take_of_length_le (by rw [prs_len]; exact Nat.le_refl _)
        rw [e3] at e2
        subst e2
        subst e1
        exact o
    -- more = True
    walk_at "nx"
    refine go_set0 (g := D (.bool true)) E1 ⟨_, ev_c (.bl _)⟩ fun σ2 H2 E2 => ?_
    -- while more
    walk_at "nx"
    refine go_while0 E2 (fun n Γ => ∃ F b o3 o5 o6 o7, PInv S F ∧ (b = false → Stable S F) ∧ n = 2 * wt S F + b.toNat ∧ NB o3 ∧ NB o5 ∧ NB o6 ∧ NB o7 ∧ Γ = Pg S p F o3 b o5 o6 o7)
      ⟨_, true, none, none, none, none, PInv.start, fun e => (nomatch e), rfl, NB.no, NB.no, NB.no, NB.no, rfl⟩ ?_
    rintro n _ ⟨F, b, o3, o5, o6, o7, hP, hst, rfl, n3, n5, n6, n7, rfl⟩
    refine ⟨_, ⟨_, et_B (ev_var rfl)⟩, fun hc σ3 H3 E3 => ?_, fun hc σ3 H3 E3 => ?_⟩
    · subst hc
      walk_at "nx"
      refine go_set0 (g := D (.bool false)) E3 ⟨_, ev_c (.bl _)⟩ fun σ4 H4 E4 => ?_
      walk_at "nx"
      refine go_for0 (gs := (S.map Datum.toD).map isD) E4 ⟨_, ei_tup (ev_var rfl)⟩ (fun i Γ => ∃ F' b' o3 o5 o6 o7, QInv S F (fun c x => c ∈ S.take i ∧ x ∈ nb2 c ∧ x ∈ S) F' b' ∧ NB o3 ∧ NB o5 ∧ NB o6 ∧ NB o7 ∧ Γ = Pg S p F' o3 b' o5 o6 o7)
        ⟨F, false, o3, o5, o6, o7, ⟨hP, fun z => (nomatch z), fun _ => ⟨rfl, fun c x h => by simp at h⟩⟩, n3, n5, n6, n7, rfl⟩ ?_ ?_
      · rintro H5 i g _ k5 σ5 H6 hg ⟨F1, b1, o3, o5, o6, o7, hQ, n3, n5, n6, n7, rfl⟩ E5
        rw [List.getElem?_map, List.getElem?_map] at hg
        cases ec : S[i]? with
        | none => rw [ec] at hg; cases hg
        | some c =>
          rw [ec] at hg
          cases hg
          have hcS : c ∈ S := List.mem_of_getElem? ec
          have et : S.take (i + 1) = S.take i ++ [c] := by rw [List.take_add_one, ec]; rfl
          -- i, j = cell
          walk_at "nx"
          refine go_asg0 (f := isD (.tuple [.int c.1, .int c.2])) E5 ⟨_, ev_var rfl⟩ (tg_pair (by decide)) fun σ7 H7 E7 => ?_
          -- for second in ..
          walk_at "nx"
          refine go_for0 (gs := ((nb2 c).map Datum.toD).map isD) E7 ⟨_, ei_list (by walk_at "ev")⟩ (fun j Γ => ∃ F' b' o7, QInv S F (fun c' x => (c' ∈ S.take i ∨ c' = c ∧ x ∈ (nb2 c).take j) ∧ x ∈ nb2 c' ∧ x ∈ S) F' b' ∧ NB o7 ∧ Γ = Pg S p F' (some (J c)) b' (some (J c.1)) (some (J c.2)) o7)
            ⟨F1, b1, o7, ⟨hQ.inv, hQ.t, fun z => ⟨(hQ.f z).1, fun c' x h => (hQ.f z).2 c' x ⟨h.1.elim id fun k => by simp at k, h.2⟩⟩⟩, n7, rfl⟩ ?_ ?_
          · rintro H8 j g _ k8 σ8 H9 hg ⟨F2, b2, o7, hQ2, n7, rfl⟩ E8
            rw [List.getElem?_map, List.getElem?_map] at hg
            cases ex : (nb2 c)[j]? with
            | none => rw [ex] at hg; cases hg
            | some x =>
              rw [ex] at hg
              cases hg
              have hxn : x ∈ nb2 c := List.mem_of_getElem? ex
              have etx : (nb2 c).take (j + 1) = (nb2 c).take j ++ [x] := by rw [List.take_add_one, ex]; rfl
              refine go_if0 (P := (· = (mem x S && decide (F2 x < F2 c)))) E8 ⟨_, et_and (P := (· = mem x S)) (et_B (ev_din (x := x) (S := S) (F := F2) (p := p) (ev_var rfl) (ev_var rfl))) (cu := 0 + 0 + (0 + 0)) (fun hx => ?_) (fun hx => ?_)⟩ (fun hc H10 E10 => ?_) fun hc H10 E10 => ?_
              · refine (et_test (ev_opI0 (ev_dget (x := x) (S := S) (F := F2) (p := p) (ev_var rfl) (ev_var rfl) (mem_iff.mp hx.symm)) (ev_dget (x := c) (S := S) (F := F2) (p := p) (ev_var rfl) (ev_var rfl) hcS) (Sc.bl _))).imp fun b hb => ?_
                rw [hb, ← hx]; rfl
              · rw [← hx]; rfl
              · -- paint[cell], more = (paint[second], True)
                have hc' := hc.symm
                rw [Bool.and_eq_true, mem_iff, decide_eq_true_iff] at hc'
                obtain ⟨hxS, hlt⟩ := hc'
                refine go_paint (k := 0) (r := 0) (c := 0 + 0 + (0 + 0)) (ip := 1) (ic := 3) (im := 4) (x := c) (v := F2 x) (S := S) (F := F2) (p := p) E10 fr (evd_cons (ev_dget (x := x) (S := S) (F := F2) (p := p) (ev_var rfl) (ev_var rfl) hxS) (evd_cons (ev_c (.bl true)) evd_nil)) rfl rfl hcS (by omega) (Pg.nb .im .im .im .im) fun σ11 H11 E11 => ?_
                have hw := wt_set (F := F2) (c := c) (v := F2 x) (hQ2.inv.nn hxS) hlt hcS hn
                refine ⟨_, _, ⟨setP F2 c (F2 x), true, _, ⟨hQ2.inv.set hcS hxS hxn hlt, fun _ => ?_, fun z => (nomatch z)⟩, .im, rfl⟩, E11⟩
                cases b2 with
                | true => have := hQ2.t rfl; omega
                | false => rw [(hQ2.f rfl).1] at hw ⊢; exact hw
              · refine ⟨_, _, ⟨F2, b2, _, ⟨hQ2.inv, hQ2.t, fun z => ⟨(hQ2.f z).1, ?_⟩⟩, .im, rfl⟩, E10⟩
                rintro c' x' ⟨h1, h2, h3⟩
                rw [etx] at h1
                rcases h1 with h1 | ⟨rfl, h1⟩
                · exact (hQ2.f z).2 c' x' ⟨.inl h1, h2, h3⟩
                · rcases List.mem_append.mp h1 with h1 | h1
                  · exact (hQ2.f z).2 _ x' ⟨.inr ⟨rfl, h1⟩, h2, h3⟩
                  · rw [List.mem_singleton.mp h1] at h3 ⊢
                    have e0 := (hQ2.f z).1
                    rw [mem_iff.mpr h3, Bool.true_and] at hc
                    rw [← e0]
                    exact of_decide_eq_false hc.symm
          · rintro _ k8 σ8 H9 ⟨F2, b2, o7, hQ2, n7, rfl⟩ E8
            refine ⟨_, _, ⟨F2, b2, _, _, _, _, ⟨hQ2.inv, hQ2.t, fun z => ⟨(hQ2.f z).1, fun c' x h => (hQ2.f z).2 c' x ⟨?_, h.2⟩⟩⟩, .im, .im, .im, n7, rfl⟩, E8⟩
            have h1 := h.1
            rw [et] at h1
            rcases List.mem_append.mp h1 with m | m
            · exact .inl m
            · have e := List.mem_singleton.mp m
              subst e
              exact .inr ⟨rfl, h.2.1⟩
      · rintro _ k5 σ5 H6 ⟨F1, b1, o3, o5, o6, o7, hQ, n3, n5, n6, n7, rfl⟩ E5
        rw [List.length_map, List.length_map, List.take_length] at hQ
        refine ⟨_, _, _, ?_, ⟨F1, b1, o3, o5, o6, o7, hQ.inv, fun z => ?_, rfl, n3, n5, n6, n7, rfl⟩, E5⟩
        · cases b1 with
          | true => have := hQ.t rfl; show 2 * wt S F1 + 1 < 2 * wt S F + 1; omega
          | false => rw [(hQ.f rfl).1]; show 2 * wt S F + 0 < 2 * wt S F + 1; omega
        · rw [(hQ.f z).1]
          exact fun c hc x hx hxS => (hQ.f z).2 c x ⟨hc, hx, hxS⟩
    · subst hc
      have hst' := hst rfl
      have hlen : ((S.filter fun _ => true).map F).length ≤ S.length := by rw [List.length_map]; exact List.length_filter_le _ _
      have hall : (S.filter fun _ => true) = S := List.filter_eq_self.mpr fun _ _ => rfl
      walk_at "nx"
      refine go_set0 (g := U fun d => ∃ us : List Int, d = Datum.toD us ∧ us.Pairwise (· < ·) ∧ ∀ z, z ∈ us ↔ z ∈ S.map F) E3 ⟨_, ev_sortedSet (ns := S.map F) ((ev_lcJ (xs := S) (fun _ => true) F (ei_tup (ev_var rfl)) (le_line (by omega)) (by decide) fun Dp x hx => ⟨et_yes, fun _ => ev_dget (x := x) (S := S) (F := F) (p := p) (ev_var rfl) (ev_var rfl) hx⟩).eq (by rw [hall])) (by rw [List.length_map]; omega)⟩ fun σ4 H4 E4 => ?_
      obtain ⟨_, ⟨us, rfl, hu1, hu2⟩, E5⟩ := E4.open_ (i := 8) rfl
      have hp := painted hS hP hst' hu1 hu2
      have hul : us.length ≤ S.length := by
        have e := congrArg List.length hp
        rw [List.length_map] at e
        rw [e]
        unfold pcs
        rw [List.length_map]
        exact List.length_filter_le _ _
      have hau : (us.filter fun _ => true) = us := List.filter_eq_self.mpr fun _ _ => rfl
      refine go_ret0 (g := J (pcs S)) E5 ⟨_, (ev_sortX (xs := (us.filter fun _ => true).map fun k => Tup.mk (S.filter fun c => decide (F c = k))) (ev_lcJ (xs := us) (fun _ => true) (fun k => Tup.mk (S.filter fun c => decide (F c = k))) (ei_list (ev_var rfl)) (le_line (by omega)) (by decide) fun Dp k hk => ⟨et_yes, fun _ => ev_tupJL ((ev_lcJ (xs := S) (fun c => decide (F c = k)) id (ei_tup (ev_var rfl)) (le_line (by omega)) (by decide) fun Dp x hx => ⟨et_test (ev_eqX (x := F x) (y := k) (ev_dget (x := x) (S := S) (F := F) (p := p) (ev_var rfl) (ev_var rfl) hx) (ev_var rfl)), fun _ => ev_var rfl⟩).eq (by rw [List.map_id]))⟩) ?_).eq ?_⟩ fun v H' E' o => ?_
      · rw [hau, hp]
        refine .inl fun x hx => ?_
        obtain ⟨r, hr0, rfl⟩ := List.mem_map.mp hx
        have hr1 : r ∈ comp S r := mem_comp.mpr (Rch.refl (List.mem_filter.mp hr0).1)
        cases hc : comp S r with
        | nil => rw [hc] at hr1; cases hr1
        | cons y ys => exact ⟨_, _, rfl⟩
      · rw [hau, hp, pcs_sorted hS]
      · exact ret_D rfl (fun _ h => h) (fun _ h => Or.inl h) q E' o
end
end K03

set_option Elab.async false
set_option linter.all false
set_option maxRecDepth 100000
set_option maxHeartbeats 4000000
namespace K03
open PySem PySem.Spec PyProof.Rows L2 PySem.W Lh Pc
local macro_rules | `(tactic| walk_at "nx") => `(tactic| first | with_reducible refine nxs ?_ | with_reducible refine seq ?_ | with_reducible refine nx1 ?_ | with_reducible refine nx0 ?_)
section
variable {P : Program} {w : World} {K : Frag} {mg : Str → Option Value} {base : Heap}
abbrev s_law_other : Stmt := topS 12
abbrev N_law_other : List Str := ["state", "squares", "columns", "rows", "way", "some", "found", "cell"]
theorem sc_law_other : FnScope N_law_other ["state", "squares", "columns", "rows"] (defScope s_law_other) := ⟨rfl, rfl, rfl, by decide +kernel, rfl, by decide +kernel, by decide +kernel⟩

def R_other (ds : List PyData) (R : PyData → Prop) : Prop := ∃ (c r : Int) (S : List Cell), (1 ≤ c ∧ c ≤ 7) ∧ (1 ≤ r ∧ r ≤ 7) ∧ Reg c r S ∧ ds = [Datum.toD (Tup.mk S), .int c, .int r] ∧ R = fun d => ∃ S', d = Datum.toD (Tup.mk S') ∧ Reg c r S'
theorem ok_law_other {f fT fP : Addr} {fd fdT fdP : FuncData} (T : Tb mg) (O : Own K mg "_law_other" s_law_other f fd ["state", "squares", "columns", "rows"]) (O_law_take : Own K mg "_law_take" s_law_take fT fdT ["state", "many"])
    (G_law_take : FnOk P w K mg base CX0 2 fT fdT ["state", "many"] (spS 1 R_take)) (O_law_region : Own K mg "_law_region" s_law_region fP fdP ["state", "columns", "rows"])
    (G_law_region : FnOk P w K mg base CX0 4 fP fdP ["state", "columns", "rows"] (spS 60 R_region)) : FnOk P w K mg base CX0 5 f fd ["state", "squares", "columns", "rows"] (spS 61 R_other) := by
  have nd := sc_law_other.nd
  refine O.F.ok sc_law_other (fun vs H Q E h => ?_) (fun cdv A outer s H vs Q E hr h => ?_)
  · obtain ⟨A, p, g, c, n, us, ds, R, rfl, hd, _, _, _, _, ⟨c, r, S, _, _, _, rfl, _⟩, _⟩ := h
    rw [List.length_cons, hd.length]
    rfl
  · obtain ⟨A, p, g, c, n, us, ds, R, rfl, hd, ht, hA, hcap, hI, ⟨co, ro, S, hc, hro, hS, rfl, rfl⟩, q⟩ := h
    have hu := hu_of hr
    refine ⟨_, (pss_cons (ps_set (i := 4) nd rfl (Or.inl rfl) (pe_call G_law_take (hr.mono (by decide)) (by rfl) O_law_take.g O_law_take.F.kp O_law_take.b .nil pass0 (pa_cons (pv 0) (pa_cons pe_int pa_nil))))
      (pss_cons (ps_if (pt_cmpR (k_eq K hr.units) (pv 4) pe_int (nomark _))
      (pss_one (ps_ret (pv 1))) pss_nil)
      (pss_cons (ps_set (i := 5) nd rfl (Or.inr rfl) (pe_call G_law_region (hr.mono (by decide)) (by rfl) O_law_region.g O_law_region.F.kp O_law_region.b .nil pass0 (pa_cons (pv 0) (pa_cons (pv 2) (pa_cons (pv 3) pa_nil)))))
      (pss_cons (ps_if (pt_cmpR (k_eq K hr.units) (pv 4) pe_int (nomark _))
      (pss_cons (ps_set (i := 6) nd rfl (Or.inl rfl) (pe_callTy (k_tuple K) (by rfl) T.z_tuple (by decide +kernel) (pa_cons (pe_lc (own := [("cell", 7)]) (g := gName 7) (tt := _) (by rfl) nd (k_forT K (pv 1)) (blkOk_by (own := [("cell", 7)]) (N := N_law_other) (sc := defScope s_law_other) (by decide +kernel)) (fun _ _ _ _ _ => (pg_name (i := 7) nd rfl (Or.inl rfl))) (fun _ _ _ _ _ => (pts_one (pt_cmpR (k_in K hr.units) (pv 7) (pv 5) (by rfl)))) (fun _ _ _ _ _ => (pv 7))) pa_nil)))
      (pss_one (ps_ret (pe_ifExp (pt_cmpR (k_ne K hr.units) (pv 6) (pe_tup pa_nil) (nomark _)) (pv 6) (pv 1))))) pss_nil)
      (pss_one (ps_ret (pv 5))))))), ?_⟩
    have E0 := env_startS (N := N_law_other) (k := 61) hd ht hA hI
    have hs : Has (mS A p g c (n + 61) H) p g c (n + 61) := has_mS hcap
    have hSl : S.length ≤ 49 := Nat.le_trans hS.1.length_le (grid_len hc hro)
    walk_at "nx"
    refine go_set E0 (sp (c' := (0 + (0 + 0)) + 1) (by decide)) (ev_callS1 hs (ev_var rfl) (evd_cons (ev_c (Sc.int 4)) evd_nil) ⟨4, by decide, by decide, rfl, rfl⟩) fun σ1 H1 E1 => ?_
    obtain ⟨_, ⟨i, rfl, hi0, hi4⟩, E1⟩ := E1.open_ (i := 4) rfl
    walk_at "nx"
    refine go_if E1 (sp (c' := 0 + 0) (by decide)) (et_test (ev_eqX (x := i) (y := 0) (ev_var rfl) (ev_c (Sc.int 0)))) (fun hb H2 E2 => ?_) fun hb H2 E2 => ?_
    · refine go_ret E2 (sp (c' := 0) (by decide)) (g := U fun d => ∃ S' : List Cell, d = Datum.toD (Tup.mk S') ∧ Reg co ro S') ((ev_var rfl : Ev _ 0 _ _ (D (Datum.toD (Tup.mk S)))).toP ⟨S, rfl, hS⟩) fun v H' _ E' o => ?_
      exact ret_S hs rfl (fun _ h => h) q E' o
    · refine go_set E2 (sp (c' := (0 + (0 + (0 + 0))) + 60) (by decide)) (ev_callS1 hs (ev_var rfl) (evd_cons (ev_var rfl) (evd_cons (ev_var rfl) evd_nil)) ⟨co, ro, hc, hro, rfl, rfl⟩) fun σ3 H3 E3 => ?_
      obtain ⟨_, ⟨S2, rfl, hS2⟩, E3⟩ := E3.open_ (i := 5) rfl
      walk_at "nx"
      refine go_if E3 (sp (c' := 0 + 0) (by decide)) (et_test (ev_eqX (x := i) (y := 1) (ev_var rfl) (ev_c (Sc.int 1)))) (fun hb H4 E4 => ?_) fun hb H4 E4 => ?_
      · walk_at "nx"
        refine go_set E4 (sp (c' := 0) (by decide)) (g := J (Tup.mk (S.filter fun x => mem x S2))) ?_ fun σ5 H5 E5 => ?_
        · refine (ev_tupJL ((ev_lcJ (xs := S) (fun x => mem x S2) id (ei_tup (ev_var rfl)) (le_line (by omega)) (by decide) fun Dp x hx => ⟨et_test (ev_inT (x := x) (xs := S2) (ev_var rfl) (ev_var rfl)), fun _ => ev_var rfl⟩).eq (by rw [List.map_id]))).up (by simp)
        · walk_at "nx"
          refine go_ret E5 (sp (c' := 0) (by decide)) (g := U fun d => ∃ S' : List Cell, d = Datum.toD (Tup.mk S') ∧ Reg co ro S') ((ev_if (P := (· = decide (S.filter (fun x => mem x S2) ≠ []))) (ct := 0 + 0) (ca := 0) (cb := 0) ?_ (fun hb => ?_) (fun hb => ?_)).up (by decide)) fun v H' _ E' o => ?_
          · exact (et_test (ev_neX (x := Tup.mk (S.filter fun x => mem x S2)) (y := Tup.mk []) (ev_var rfl) (ev_tup' evd_nil (Nat.zero_le _)))).imp fun b hb => hb.trans (decide_eq_decide.mpr ⟨fun h e => h (congrArg Tup.mk e), fun h e => h (by injection e)⟩)
          · exact (ev_var rfl : Ev _ 0 _ _ (D (Datum.toD (Tup.mk (S.filter fun x => mem x S2))))).toP ⟨_, rfl, List.filter_sublist.trans hS.1, of_decide_eq_true hb.symm⟩
          · exact (ev_var rfl : Ev _ 0 _ _ (D (Datum.toD (Tup.mk S)))).toP ⟨_, rfl, hS⟩
          · exact ret_S hs rfl (fun _ h => h) q E' o
      · refine go_ret E4 (sp (c' := 0) (by decide)) (g := U fun d => ∃ S' : List Cell, d = Datum.toD (Tup.mk S') ∧ Reg co ro S') ((ev_var rfl : Ev _ 0 _ _ (D (Datum.toD (Tup.mk S2)))).toP ⟨S2, rfl, hS2⟩) fun v H' _ E' o => ?_
        exact ret_S hs rfl (fun _ h => h) q E' o
end
end K03

set_option Elab.async false
set_option linter.all false
set_option maxRecDepth 100000
set_option maxHeartbeats 4000000
namespace K03
open PySem PySem.Spec PyProof.Rows L2 PySem.W Lh Pc
local macro_rules | `(tactic| walk_at "nx") => `(tactic| first | with_reducible refine nxs ?_ | with_reducible refine seq ?_ | with_reducible refine nx1 ?_ | with_reducible refine nx0 ?_)
theorem mem_un {a b : List Cell} {x : Cell} : x ∈ a ++ b.filter (fun x => !mem x a) ↔ x ∈ a ∨ x ∈ b := by
  rw [List.mem_append, List.mem_filter]
  constructor
  · rintro (h | h)
    · exact .inl h
    · exact .inr h.1
  · rintro (h | h)
    · exact .inl h
    · by_cases m : x ∈ a
      · exact .inl m
      · refine .inr ⟨h, ?_⟩
        rw [Bool.not_eq_true', ← Bool.not_eq_true, mem_iff]
        exact m
theorem nodup_un {a b : List Cell} (ha : Ris a) (hb : Ris b) : (a ++ b.filter fun x => !mem x a).Nodup := by
  rw [List.nodup_append]
  refine ⟨ha.nodup, hb.nodup.filter _, fun x hx y hy e => ?_⟩
  subst e
  have h := (List.mem_filter.mp hy).2
  rw [mem_iff.mpr hx] at h
  cases h
theorem un_ris {a b : List Cell} (ha : Ris a) (hb : Ris b) : Ris (un a b) := sort_ris (nodup_un ha hb)
theorem in_un {a b : List Cell} {x : Cell} : x ∈ un a b ↔ x ∈ a ∨ x ∈ b := by
  unfold un
  rw [List.mem_mergeSort, mem_un]
theorem un_comm {a b : List Cell} (ha : Ris a) (hb : Ris b) : un a b = un b a :=
  ris_eq (un_ris ha hb) (un_ris hb ha) fun x => by rw [in_un, in_un, Or.comm]
theorem un_less {a b : List Cell} (ha : Ris a) (hb : Ris b) : (un a b).filter (fun x => !mem x b) = a.filter fun x => !mem x b := by
  refine ris_eq ((un_ris ha hb).filter _) (ha.filter _) fun x => ?_
  rw [List.mem_filter, List.mem_filter, in_un]
  constructor
  · rintro ⟨h | h, k⟩
    · exact ⟨h, k⟩
    · rw [mem_iff.mpr h] at k
      cases k
  · rintro ⟨h, k⟩
    exact ⟨.inl h, k⟩
theorem less_self (a : List Cell) : a.filter (fun x => !mem x a) = [] := by
  rw [List.filter_eq_nil_iff]
  intro x hx
  rw [mem_iff.mpr hx]
  decide
section
variable {P : Program} {w : World} {K : Frag} {mg : Str → Option Value} {base : Heap}
abbrev s_law : Stmt := topS 13
abbrev N_law : List Str := ["script", "state", "turn", "columns", "rows", "first", "second", "squares", "due", "again", "found", "part", "together", "cell", "left"]
theorem sc_law : FnScope N_law ["script"] (defScope s_law) := ⟨rfl, rfl, rfl, by decide +kernel, rfl, by decide +kernel, by decide +kernel⟩

def spLaw (K : Frag) : Sp := fun vs H Q _ => ∃ (a : Addr) (ns : List Int), vs = [.ref a] ∧ SqL K H a (ns.map V.int) ∧ ns.length ≤ 63 ∧ ∀ H', Q (.bl true) H'
abbrev no (n : Nat) : Gam := List.replicate n none
abbrev G1 (p : Addr) (S1 S2 : List Cell) : Gam := none :: some (Vl (.ref p)) :: none :: none :: none :: some (J (Tup.mk S1)) :: some (J (Tup.mk S2)) :: no 8
noncomputable abbrev G2 (p : Addr) (S1 S2 S : List Cell) : Gam := none :: some (Vl (.ref p)) :: none :: none :: none :: some (J (Tup.mk S1)) :: some (J (Tup.mk S2)) :: some (J (Tup.mk S)) :: some (J (pcs S)) :: no 6
theorem ok_law {f fB fT fR fO fP fPi fBo fL : Addr} {fd fdB fdT fdR fdO fdP fdPi fdBo fdL : FuncData} (T : Tb mg) (O : Own K mg "law" s_law f fd ["script"])
    (O_law_begun : Own K mg "_law_begun" s_law_begun fB fdB ["script"]) (G_law_begun : FnOk P w K mg base CX0 1 fB fdB ["script"] (sp_begun K))
    (O_law_take : Own K mg "_law_take" s_law_take fT fdT ["state", "many"]) (G_law_take : FnOk P w K mg base CX0 2 fT fdT ["state", "many"] (spS 1 R_take))
    (O_law_region : Own K mg "_law_region" s_law_region fR fdR ["state", "columns", "rows"]) (G_law_region : FnOk P w K mg base CX0 4 fR fdR ["state", "columns", "rows"] (spS 60 R_region))
    (O_law_other : Own K mg "_law_other" s_law_other fO fdO ["state", "squares", "columns", "rows"]) (G_law_other : FnOk P w K mg base CX0 5 fO fdO ["state", "squares", "columns", "rows"] (spS 61 R_other))
    (O_law_painted : Own K mg "_law_painted" s_law_painted fP fdP ["squares"]) (G_law_painted : FnOk P w K mg base CX0 1 fP fdP ["squares"] (spD R_painted))
    (O_pieces : Own K mg "pieces" s_pieces fPi fdPi ["cells"]) (G_pieces : FnOk P w K mg base CX0 2 fPi fdPi ["cells"] (spL R_pieces)) (KB_pieces : KB K fdPi ["cells"] ["cells"] [0])
    (O_both : Own K mg "both" s_both fBo fdBo ["one", "other"]) (G_both : FnOk P w K mg base CX0 2 fBo fdBo ["one", "other"] (spD R_both)) (KB_both : KB K fdBo ["one", "other"] ["other", "one"] [1, 0])
    (O_less : Own K mg "less" s_less fL fdL ["one", "other"]) (G_less : FnOk P w K mg base CX0 1 fL fdL ["one", "other"] (spD R_less)) (KB_less : KB K fdL ["one", "other"] ["other", "one"] [1, 0]) :
    FnOk P w K mg base CX0 6 f fd ["script"] (spLaw K) := by
  have nd := sc_law.nd
  refine O.F.ok sc_law (fun vs H Q E h => ?_) (fun cdv A outer s H vs Q E hr h => ?_)
  · obtain ⟨a, ns, rfl, _⟩ := h
    rfl
  · obtain ⟨a, ns, rfl, hS, hl, q⟩ := h
    have hu := hu_of hr
    refine ⟨_, (pss_cons (ps_set (i := 1) nd rfl (Or.inl rfl) (pe_call G_law_begun (hr.mono (by decide)) (by rfl) O_law_begun.g O_law_begun.F.kp O_law_begun.b .nil pass0 (pa_cons (pv 0) pa_nil)))
      (pss_cons (ps_for PassesOwn.never rfl (pi_range1 rfl T.z_range (pa_cons pe_int pa_nil)) (pg_name (i := 2) nd rfl (Or.inl rfl))
      (pss_cons (ps_par (i := 3) (j := 4) (by rfl) nd rfl rfl (by decide) rfl rfl (pa_cons (pe_op op_add pe_int (pe_call G_law_take (hr.mono (by decide)) (by rfl) O_law_take.g O_law_take.F.kp O_law_take.b .nil pass0 (pa_cons (pv 1) (pa_cons pe_int pa_nil)))) (pa_cons (pe_op op_add pe_int (pe_call G_law_take (hr.mono (by decide)) (by rfl) O_law_take.g O_law_take.F.kp O_law_take.b .nil pass0 (pa_cons (pv 1) (pa_cons pe_int pa_nil)))) pa_nil)) (by rfl))
      (pss_cons (ps_set (i := 5) nd rfl (Or.inr rfl) (pe_call G_law_region (hr.mono (by decide)) (by rfl) O_law_region.g O_law_region.F.kp O_law_region.b .nil pass0 (pa_cons (pv 1) (pa_cons (pv 3) (pa_cons (pv 4) pa_nil)))))
      (pss_cons (ps_set (i := 6) nd rfl (Or.inr rfl) (pe_call G_law_other (hr.mono (by decide)) (by rfl) O_law_other.g O_law_other.F.kp O_law_other.b .nil pass0 (pa_cons (pv 1) (pa_cons (pv 5) (pa_cons (pv 3) (pa_cons (pv 4) pa_nil))))))
      (pss_cons (ps_for PassesOwn.never rfl (k_forL K (pe_lst (pa_cons (pv 5) (pa_cons (pv 6) pa_nil)))) (pg_name (i := 7) nd rfl (Or.inl rfl))
      (pss_cons (ps_set (i := 8) nd rfl (Or.inl rfl) (pe_call G_law_painted (hr.mono (by decide)) (by rfl) O_law_painted.g O_law_painted.F.kp O_law_painted.b .nil pass0 (pa_cons (pv 7) pa_nil)))
      (pss_one (ps_for PassesOwn.never rfl (pi_range1 rfl T.z_range (pa_cons pe_int pa_nil)) (pg_name (i := 9) nd rfl (Or.inl rfl))
      (pss_cons (ps_set (i := 10) nd rfl (Or.inl rfl) (pe_ifExp (pt_cmpR (k_eq K hr.units) (pv 9) pe_int (nomark _)) (pe_call G_pieces (hr.mono (by decide)) (by rfl) O_pieces.g O_pieces.F.kp O_pieces.b .nil pass0 (pa_cons (pv 7) pa_nil)) (k_callKw G_pieces (hr.mono (by decide)) (by rfl) O_pieces.g O_pieces.F.kp KB_pieces pass0 (pk_cons (pv 7) pk_nil))))
      (pss_cons (ps_if (PW.pt (pw_or (pt_not (pt_val (pe_callB (k_isi K) (by rfl) T.z_isinstance (by decide +kernel) (pa_cons (pv 10) (pa_cons (k_tyN "list" (by rfl) T.z_list (by decide +kernel)) pa_nil))))) (pw_or1 (pt_cmpR (k_ne K hr.units) (pv 10) (pv 8) (nomark _)))))
      (pss_one (ps_ret pe_bl)) pss_nil)
      (pss_cons (ps_if (pt_cmpR (k_ne K hr.units) (pe_lc (own := [("part", 11)]) (g := gName 11) (tt := _) (by rfl) nd (k_forL K (pv 10)) (blkOk_by (own := [("part", 11)]) (N := N_law) (sc := defScope s_law) (by decide +kernel)) (fun _ _ _ _ _ => (pg_name (i := 11) nd rfl (Or.inl rfl))) (fun _ _ _ _ _ => (pts_one (pt_not (pt_val (pe_callB (k_isi K) (by rfl) T.z_isinstance (by decide +kernel) (pa_cons (pv 11) (pa_cons (k_tyN "tuple" (by rfl) T.z_tuple (by decide +kernel)) pa_nil))))))) (fun _ _ _ _ _ => (pv 11))) (pe_lst pa_nil) (nomark _))
      (pss_one (ps_ret pe_bl)) pss_nil)
      (pss_one (ps_expr (k_bm K PySem.F.plainAttrs_list PySem.F.slot_list_append PySem.F.type_list_append mt_append (pv 10) (pa_cons pe_non pa_nil)))))))))))
      (pss_cons (ps_set (i := 12) nd rfl (Or.inl rfl) (pe_callTy (k_tuple K) (by rfl) T.z_tuple (by decide +kernel) (pa_cons (pe_callB (k_sorted K hr.units) (by rfl) T.z_sorted (by decide +kernel) (pa_cons (pe_op op_cat (pe_callTy (k_list K) (by rfl) T.z_list (by decide +kernel) (pa_cons (pv 5) pa_nil)) (pe_lc (own := [("cell", 13)]) (g := gName 13) (tt := _) (by rfl) nd (k_forT K (pv 6)) (blkOk_by (own := [("cell", 13)]) (N := N_law) (sc := defScope s_law) (by decide +kernel)) (fun _ _ _ _ _ => (pg_name (i := 13) nd rfl (Or.inl rfl))) (fun _ _ _ _ _ => (pts_one (pt_cmpR (k_notIn K hr.units) (pv 13) (pv 5) (by rfl)))) (fun _ _ _ _ _ => (pv 13)))) pa_nil)) pa_nil)))
      (pss_cons (ps_if (PW.pt (pw_or (pt_cmpR (k_ne K hr.units) (pe_call G_both (hr.mono (by decide)) (by rfl) O_both.g O_both.F.kp O_both.b .nil pass0 (pa_cons (pv 5) (pa_cons (pv 6) pa_nil))) (pv 12) (nomark _)) (pw_or1 (pt_cmpR (k_ne K hr.units) (k_callKw G_both (hr.mono (by decide)) (by rfl) O_both.g O_both.F.kp KB_both pass0 (pk_cons (pv 5) (pk_cons (pv 6) pk_nil))) (pv 12) (nomark _)))))
      (pss_one (ps_ret pe_bl)) pss_nil)
      (pss_cons (ps_set (i := 14) nd rfl (Or.inl rfl) (pe_callTy (k_tuple K) (by rfl) T.z_tuple (by decide +kernel) (pa_cons (pe_lc (own := [("cell", 13)]) (g := gName 13) (tt := _) (by rfl) nd (k_forT K (pv 5)) (blkOk_by (own := [("cell", 13)]) (N := N_law) (sc := defScope s_law) (by decide +kernel)) (fun _ _ _ _ _ => (pg_name (i := 13) nd rfl (Or.inl rfl))) (fun _ _ _ _ _ => (pts_one (pt_cmpR (k_notIn K hr.units) (pv 13) (pv 6) (by rfl)))) (fun _ _ _ _ _ => (pv 13))) pa_nil)))
      (pss_cons (ps_if (PW.pt (pw_or (pt_cmpR (k_ne K hr.units) (pe_call G_less (hr.mono (by decide)) (by rfl) O_less.g O_less.F.kp O_less.b .nil pass0 (pa_cons (pv 5) (pa_cons (pv 6) pa_nil))) (pv 14) (nomark _)) (pw_or1 (pt_cmpR (k_ne K hr.units) (k_callKw G_less (hr.mono (by decide)) (by rfl) O_less.g O_less.F.kp KB_less pass0 (pk_cons (pv 6) (pk_cons (pv 5) pk_nil))) (pv 14) (nomark _)))))
      (pss_one (ps_ret pe_bl)) pss_nil)
      (pss_cons (ps_if (pt_not (pt_val (pe_callB (k_isi K) (by rfl) T.z_isinstance (by decide +kernel) (pa_cons (pe_call G_less (hr.mono (by decide)) (by rfl) O_less.g O_less.F.kp O_less.b .nil pass0 (pa_cons (pv 5) (pa_cons (pv 5) pa_nil))) (pa_cons (k_tyN "tuple" (by rfl) T.z_tuple (by decide +kernel)) pa_nil)))))
      (pss_one (ps_ret pe_bl)) pss_nil)
      (pss_one (ps_if (PW.pt (pw_or (pt_cmpR (k_ne K hr.units) (pe_call G_less (hr.mono (by decide)) (by rfl) O_less.g O_less.F.kp O_less.b .nil pass0 (pa_cons (pv 5) (pa_cons (pv 5) pa_nil))) (pe_tup pa_nil) (nomark _)) (pw_or1 (pt_cmpR (k_ne K hr.units) (pe_call G_less (hr.mono (by decide)) (by rfl) O_less.g O_less.F.kp O_less.b .nil pass0 (pa_cons (pe_call G_both (hr.mono (by decide)) (by rfl) O_both.g O_both.F.kp O_both.b .nil pass0 (pa_cons (pv 5) (pa_cons (pv 6) pa_nil))) (pa_cons (pv 6) pa_nil))) (pv 14) (nomark _)))))
      (pss_one (ps_ret pe_bl)) pss_nil))))))))))))
      (pss_one (ps_ret pe_bl)))), ?_⟩
    -- state = _law_begun(script)
    refine ⟨.ref a, rfl, a, ns, rfl, hS, hl, fun p g c H1 kp hp hg hc hI => ?_⟩
    have E1 : Env (mS (Sm p g c) p g c (0 + 369) H1) 369 (none :: some (Vl (.ref p)) :: no 13) [some (.ref a), some (.ref p), none, none, none, none, none, none, none, none, none, none, none, none, none] H1 := by
      refine ⟨⟨0, Nat.le_refl _, hI⟩, fun _ _ h _ => h, fun _ h => h, fun _ h => hI.trk h, fun _ h => absurd h (by show _ ∉ []; simp), rfl, fun i g' e => ?_⟩
      match i, e with
      | 0, e => cases e
      | 1, e => cases e; exact ⟨_, rfl, rfl⟩
      | i + 2, e =>
        rw [show ((none :: some (Vl (.ref p)) :: no 13 : Gam))[i + 2]? = (no 13)[i]? from rfl, List.getElem?_replicate] at e
        split at e <;> cases e
    have hs : Has (mS (Sm p g c) p g c (0 + 369) H1) p g c (0 + 369) := has_mS (by decide)
    show tFor (iRng1 (tCons (tC (V.int 3)) tNil)) (gName 2) _ _ _ _
    refine go_for1 (j := 2) E1 (sp (c' := 0) (by decide)) (ei_rng1 (ev_c (Sc.int 3)) (by decide) (by decide)) (fun i Γ k => k + 123 * i = 369 ∧ Γ = none :: some (Vl (.ref p)) :: no 13) ⟨rfl, rfl⟩ ?_ ?_
    · rintro H2 i g2 _ k2 σ2 H3 hg ⟨hk, rfl⟩ E2
      have hi : i < 3 := by
        have h0 := (List.getElem?_eq_some_iff.mp hg).1
        rw [List.length_map] at h0
        exact h0
      obtain ⟨k3, rfl⟩ : ∃ k3, k2 = k3 + 123 := ⟨k2 - 123, by omega⟩
      have hs2 := hs.lt (H := H2)
      -- columns, rows
      walk_at "nx"
      refine go_par (g1 := U fun d => ∃ z : Int, d = .int z ∧ 1 ≤ z ∧ z ≤ 7) (g2 := U fun d => ∃ z : Int, d = .int z ∧ 1 ≤ z ∧ z ≤ 7) E2 (sp (c' := (0 + ((0 + (0 + 0)) + 1)) + ((0 + ((0 + (0 + 0)) + 1)) + 0)) (by omega))
        (eva_cons (ev_opU (ev_c (Sc.int 1)).asU (ev_callS1 hs2 (ev_var rfl) (evd_cons (ev_c (Sc.int 7)) evd_nil) ⟨7, by decide, by decide, rfl, rfl⟩) fun i j hi hj => ⟨_, Sc.int _, _, rfl, by omega, by omega⟩)
        (eva_cons (ev_opU (ev_c (Sc.int 1)).asU (ev_callS1 hs2 (ev_var rfl) (evd_cons (ev_c (Sc.int 7)) evd_nil) ⟨7, by decide, by decide, rfl, rfl⟩) fun i j hi hj => ⟨_, Sc.int _, _, rfl, by omega, by omega⟩) eva_nil)) fun σ4 H4 E4 => ?_
      obtain ⟨_, ⟨co, rfl, hc⟩, E4⟩ := E4.open_ (i := 3) rfl
      obtain ⟨_, ⟨ro, rfl, hro⟩, E4⟩ := E4.open_ (i := 4) rfl
      -- first, second
      walk_at "nx"
      refine go_set E4 (sp (c' := (0 + (0 + (0 + 0))) + 60) (by omega)) (ev_callS1 hs2 (ev_var rfl) (evd_cons (ev_var rfl) (evd_cons (ev_var rfl) evd_nil)) ⟨co, ro, hc, hro, rfl, rfl⟩) fun σ5 H5 E5 => ?_
      obtain ⟨_, ⟨S1, rfl, hS1⟩, E5⟩ := E5.open_ (i := 5) rfl
      walk_at "nx"
      refine go_set E5 (sp (c' := (0 + (0 + (0 + (0 + 0)))) + 61) (by omega)) (ev_callS1 hs2 (ev_var rfl) (evd_cons (ev_var rfl) (evd_cons (ev_var rfl) (evd_cons (ev_var rfl) evd_nil))) ⟨co, ro, S1, hc, hro, hS1, rfl, rfl⟩) fun σ6 H6 E6 => ?_
      obtain ⟨_, ⟨S2, rfl, hS2⟩, E6⟩ := E6.open_ (i := 6) rfl
      have r1 : Ris S1 := List.Pairwise.sublist hS1.1 (grid_ris hro)
      have r2 : Ris S2 := List.Pairwise.sublist hS2.1 (grid_ris hro)
      have l1 : S1.length ≤ 49 := Nat.le_trans hS1.1.length_le (grid_len hc hro)
      have l2 : S2.length ≤ 49 := Nat.le_trans hS2.1.length_le (grid_len hc hro)
      have E6' := ((E6.forget 2).forget 3).forget 4
      have ek : k3 + 123 - ((0 + ((0 + (0 + 0)) + 1)) + ((0 + ((0 + (0 + 0)) + 1)) + 0)) - ((0 + (0 + (0 + 0))) + 60) - ((0 + (0 + (0 + (0 + 0)))) + 61) = k3 := by omega
      rw [ek] at E6'
      -- for squares in [first, second]
      walk_at "nx"
      refine go_for1 (j := 7) E6' (sp (c' := 0) (Nat.zero_le _)) (ei_list (ev_lst' (evd_cons (ev_var rfl) (evd_cons (ev_var rfl) evd_nil)) (Nat.le_of_ble_eq_true rfl))) (fun i Γ k => k = k3 ∧ Γ = G1 p S1 S2) ⟨by omega, rfl⟩ ?_ ?_
      · rintro H7 i7 g7 _ k7 σ7 H8 hg7 ⟨rfl, rfl⟩ E7
        obtain ⟨S, hSr, hSl, rfl⟩ : ∃ S : List Cell, Pc.Ris S ∧ S.length ≤ 49 ∧ g7 = isD (Datum.toD (Tup.mk S)) := by
          match i7, hg7 with
          | 0, e => cases e; exact ⟨S1, r1, l1, rfl⟩
          | 1, e => cases e; exact ⟨S2, r2, l2, rfl⟩
        have hpl : (pcs S).length ≤ S.length := by
          unfold pcs
          rw [List.length_map]
          exact List.length_filter_le _ _
        walk_at "nx"
        refine go_set E7 (sp (c' := 0) (Nat.zero_le _)) (g := J (pcs S)) (ev_call' (evd_cons (ev_var rfl) evd_nil) ⟨S, hSr, hSl, rfl, rfl⟩) fun σ8 H9 E8 => ?_
        refine go_for1 (j := 9) E8 (sp (c' := 0) (Nat.zero_le _)) (ei_rng1 (ev_c (Sc.int 2)) (by decide) (by decide)) (fun i Γ k => k = k7 ∧ Γ = G2 p S1 S2 S) ⟨by omega, rfl⟩ ?_ ?_
        · rintro H10 i9 g9 _ k9 σ9 H11 hg9 ⟨rfl, rfl⟩ E9
          obtain ⟨z9, rfl⟩ : ∃ z : Int, g9 = isD (.int z) := by
            match i9, hg9 with
            | 0, e => cases e; exact ⟨_, rfl⟩
            | 1, e => cases e; exact ⟨_, rfl⟩
          walk_at "nx"
          refine go_boxN (es := (pcs S).map Datum.toD) E9 (sp (c' := 0 + 0 + 0 + 0) (Nat.zero_le _)) (en_if (et_test (ev_eqX (x := z9) (y := 0) (ev_var rfl) (ev_c (Sc.int 0)))) (fun _ => en_call (evd_cons (ev_var rfl) evd_nil) ⟨S, hSr, by omega, rfl, rfl⟩) (fun _ => en_callKw (evd_cons (ev_var rfl) evd_nil) rfl ⟨S, hSr, by omega, rfl, rfl⟩)) fun p2 σ10 H12 nb nA nM E10 => ?_
          have hb10 : NoBox p2 ((none :: some (Vl (.ref p)) :: none :: none :: none :: some (J (Tup.mk S1)) :: some (J (Tup.mk S2)) :: some (J (Tup.mk S)) :: some (J (pcs S)) :: some (D (.int z9)) :: no 5 : Gam)) := .none (.im (.none (.none (.none (.im (.im (.im (.im (.im (.none (.none (.none (.none (.none .nil))))))))))))))
          walk_at "nx"
          refine go_if (P := (· = false)) E10 (sp (c' := 0 + 0 + (0 + 0)) (Nat.zero_le _)) (EvT.read (i := 10) (p := p2) (ds := (pcs S).map Datum.toD) rfl hb10 (et_or (P := (· = false)) ((et_not (et_test (ev_isiL (ev_var rfl)))).imp fun b hb => ?_) (fun _ => (et_test (ev_neX (x := pcs S) (y := pcs S) (ev_var rfl) (ev_var rfl))).imp fun b hb => ?_) (fun e => nomatch e))) (fun e => nomatch e) (fun _ H13 E13 => ?_)
          · cases b with
            | false => rfl
            | true => cases hb
          · rw [hb]; exact decide_eq_false fun h => h rfl
          refine go_if (P := (· = false)) E13 (sp (c' := 0 + (pcs S).length * (0 + 0) + 0) (by simp)) (EvT.read (i := 10) (p := p2) (ds := (pcs S).map Datum.toD) rfl hb10 ((et_test (ev_neX (x := (([] : List (Tup Cell)))) (y := []) ((ev_lcJ (xs := pcs S) (fun _ => false) id (ei_list (ev_var rfl)) (le_line (by omega)) (by decide) fun Dp x hx => ⟨(et_not (et_test (ev_isiT (ds := x.items.map Datum.toD) (ev_var rfl)))).imp fun b hb => ?_, fun e => nomatch e⟩).eq ?_) (ev_lst' evd_nil (Nat.zero_le _)))).imp fun b hb => ?_)) (fun e => nomatch e) (fun _ H14 E14 => ?_)
          · cases b with
            | false => rfl
            | true => cases hb
          · rw [List.map_id, show (pcs S).filter (fun _ => false) = [] from List.filter_eq_nil_iff.mpr fun _ _ h => by cases h]
          · rw [hb]; exact decide_eq_false fun h => h rfl
          refine go_appendD (i := 10) (p := p2) (ds := (pcs S).map Datum.toD) E14 (sp (c' := 0) (Nat.zero_le _)) rfl (ev_c Sc.non) (by rw [List.length_map]; exact lt_line (by omega)) hb10 fun H15 E15 => ?_
          exact ⟨_, _, ⟨rfl, rfl⟩, ((E15.forget 10).forget 9).unadd (fun _ h => h) (.none (.im (.none (.none (.none (.im (.im (.im (.im (.none (.none (.none (.none (.none (.none .nil)))))))))))))))⟩
        · rintro _ k9 σ9 H10 ⟨rfl, rfl⟩ E9
          exact ⟨_, _, ⟨rfl, rfl⟩, (E9.forget 8).forget 7⟩
      · rintro _ k7 σ7 H7 ⟨rfl, rfl⟩ E7
        have lf : (S2.filter fun x => !mem x S1).length ≤ S2.length := List.length_filter_le _ _
        have lu : (un S1 S2).length ≤ 98 := by
          unfold un
          rw [List.length_mergeSort, List.length_append]
          omega
        -- together
        walk_at "nx"
        refine go_set E7 (sp (c' := 0 + (0 + S2.length * (0 + 0))) (by simp)) (g := J (Tup.mk (un S1 S2))) (ev_tupJL (ev_sortX (xs := S1 ++ S2.filter fun x => !mem x S1) (ev_catJ (ev_listJT (ev_var rfl)) ((ev_lcJ (xs := S2) (fun x => !mem x S1) id (ei_tup (ev_var rfl)) (le_line (by omega)) (by decide) fun Dp x hx => ⟨et_test (ev_notInT (x := x) (xs := S1) (ev_var rfl) (ev_var rfl)), fun _ => ev_var rfl⟩).eq (by rw [List.map_id])) (le_line (by omega))) (.inl fun x _ => ⟨_, _, rfl⟩))) fun σ8 H8 E8 => ?_
        -- both
        walk_at "nx"
        refine go_if (P := (· = false)) E8 (sp (c' := 0 + (0 + 0) + 0 + (0 + (0 + 0) + 0)) (Nat.zero_le _)) (et_or (P := (· = false))
          ((et_test (ev_neX (x := Tup.mk (un S1 S2)) (y := Tup.mk (un S1 S2)) (ev_call' (evd_cons (ev_var rfl) (evd_cons (ev_var rfl) evd_nil)) ⟨S1, S2, by omega, by omega, rfl, rfl⟩) (ev_var rfl))).imp fun b hb => ?_)
          (fun _ => (et_test (ev_neX (x := Tup.mk (un S2 S1)) (y := Tup.mk (un S1 S2)) (ev_callKw (evd_cons (ev_var rfl) (evd_cons (ev_var rfl) evd_nil)) rfl ⟨S2, S1, by omega, by omega, rfl, rfl⟩) (ev_var rfl))).imp fun b hb => ?_) (fun e => nomatch e)) (fun e => nomatch e) (fun _ H9 E9 => ?_)
        · rw [hb]; exact decide_eq_false fun h => h rfl
        · rw [hb]; exact decide_eq_false fun h => h (by rw [un_comm r1 r2])
        -- left
        refine go_set E9 (sp (c' := 0 + S1.length * (0 + 0)) (by simp)) (g := J (Tup.mk (S1.filter fun x => !mem x S2))) (ev_tupJL ((ev_lcJ (xs := S1) (fun x => !mem x S2) id (ei_tup (ev_var rfl)) (le_line (by omega)) (by decide) fun Dp x hx => ⟨et_test (ev_notInT (x := x) (xs := S2) (ev_var rfl) (ev_var rfl)), fun _ => ev_var rfl⟩).eq (by rw [List.map_id]))) fun σ10 H10 E10 => ?_
        walk_at "nx"
        refine go_if (P := (· = false)) E10 (sp (c' := 0 + (0 + 0) + 0 + (0 + (0 + 0) + 0)) (Nat.zero_le _)) (et_or (P := (· = false))
          ((et_test (ev_neX (x := Tup.mk (S1.filter fun x => !mem x S2)) (y := Tup.mk (S1.filter fun x => !mem x S2)) (ev_call' (evd_cons (ev_var rfl) (evd_cons (ev_var rfl) evd_nil)) ⟨S1, S2, le_line (by omega), rfl, rfl⟩) (ev_var rfl))).imp fun b hb => ?_)
          (fun _ => (et_test (ev_neX (x := Tup.mk (S1.filter fun x => !mem x S2)) (y := Tup.mk (S1.filter fun x => !mem x S2)) (ev_callKw (evd_cons (ev_var rfl) (evd_cons (ev_var rfl) evd_nil)) rfl ⟨S1, S2, le_line (by omega), rfl, rfl⟩) (ev_var rfl))).imp fun b hb => ?_) (fun e => nomatch e)) (fun e => nomatch e) (fun _ H11 E11 => ?_)
        · rw [hb]; exact decide_eq_false fun h => h rfl
        · rw [hb]; exact decide_eq_false fun h => h rfl
        -- less of itself
        refine go_if (P := (· = false)) E11 (sp (c' := 0 + (0 + 0) + 0) (Nat.zero_le _)) ((et_not (et_test (ev_isiT (ds := (S1.filter fun x => !mem x S1).map Datum.toD) (ev_call' (evd_cons (ev_var rfl) (evd_cons (ev_var rfl) evd_nil)) ⟨S1, S1, le_line (by omega), rfl, rfl⟩)))).imp fun b hb => ?_) (fun e => nomatch e) (fun _ H12 E12 => ?_)
        · cases b with
          | false => rfl
          | true => cases hb
        refine go_if (P := (· = false)) E12 (sp (c' := 0 + (0 + 0) + 0 + (0 + (0 + 0) + 0 + 0)) (Nat.zero_le _)) (et_or (P := (· = false))
          ((et_test (ev_neX (x := Tup.mk (S1.filter fun x => !mem x S1)) (y := Tup.mk []) (ev_call' (evd_cons (ev_var rfl) (evd_cons (ev_var rfl) evd_nil)) ⟨S1, S1, le_line (by omega), rfl, rfl⟩) (ev_tup' evd_nil (Nat.zero_le _)))).imp fun b hb => ?_)
          (fun _ => (et_test (ev_neX (x := Tup.mk ((un S1 S2).filter fun x => !mem x S2)) (y := Tup.mk (S1.filter fun x => !mem x S2)) (ev_call' (evd_cons (ev_call' (evd_cons (ev_var rfl) (evd_cons (ev_var rfl) evd_nil)) ⟨S1, S2, by omega, by omega, rfl, rfl⟩) (evd_cons (ev_var rfl) evd_nil)) ⟨un S1 S2, S2, le_line (by omega), rfl, rfl⟩) (ev_var rfl))).imp fun b hb => ?_) (fun e => nomatch e)) (fun e => nomatch e) (fun _ H13 E13 => ?_)
        · rw [hb]; exact decide_eq_false fun h => h (by rw [less_self])
        · rw [hb]; exact decide_eq_false fun h => h (by rw [un_less r1 r2])
        exact ⟨_, _, ⟨by omega, rfl⟩, ((((E13.forget 5).forget 6).forget 12).forget 14)⟩
    · rintro _ k2 σ2 H2 ⟨_, rfl⟩ E2
      walk_at "nx"
      refine go_ret E2 (sp (c' := 0) (Nat.zero_le _)) (ev_c (Sc.bl true)) fun v H3 _ E3 o => ?_
      cases o
      exact q _
end
end K03

set_option Elab.async false
set_option linter.all false
set_option maxRecDepth 100000
set_option maxHeartbeats 4000000
namespace K03
open PySem PySem.Spec PyProof.Rows L2 PySem.W Lh Pc
theorem own_mk {w : World} {K : Frag} {h : Heap} {mg : Str → Option Value} {x : Str} {st : Stmt} {f : Addr} {oc kV doc pm cdv ct : Value} {od an : Option Addr} {sl : Array (Option Value)} {ps : List Str} (X : K.In h) (G : h.Ns mainGlobals mg)
    (a : PySem.W.nsIn K mainGlobals x = some (some (.ref f))) (l : K.lookup f = some ⟨oc, od, .func (PySem.W.fnOf x x (defArgs st) (defBody st) (defScope st) .none kV doc pm an cdv ct), sl⟩) (c : PySem.W.codeIn K cdv x = true) (k : PySem.W.keepIn K (.ref f) = true)
    (hb : ∀ (kV doc pm : Value) (an : Option Addr) (cdv ct : Value) (us : List Value), us.length = ps.length → bindArgs (PySem.W.fnOf x x (defArgs st) (defBody st) (defScope st) .none kV doc pm an cdv ct) ⟨us, []⟩ = pure (ps.zip us)) :
    Own K mg x st f (PySem.W.fnOf x x (defArgs st) (defBody st) (defScope st) .none kV doc pm an cdv ct) ps := ⟨fun_mk l c k, PySem.W.mg_of X G a, (fun_mk l c k).binds hb⟩
theorem all_mk {l : PySem.W.OpenLaw} {w : World} {K : Frag} {h : Heap} {mg : Str → Option Value} {fa f1 f2 f3 f4 f5 f6 f7 f8 f9 f10 f11 f12 : Addr} (X : K.In h) (G : h.Ns mainGlobals mg) (hfa : mg "law" = some (.ref fa))
    {od1 an1 od2 an2 od3 an3 od4 an4 od5 an5 od6 an6 od7 an7 od8 an8 od9 an9 od10 an10 od11 an11 od12 an12 : Option Addr} {sl1 sl2 sl3 sl4 sl5 sl6 sl7 sl8 sl9 sl10 sl11 sl12 : Array (Option Value)} {oc1 kV1 dc1 pm1 cd1 ct1 oc2 kV2 dc2 pm2 cd2 ct2 oc3 kV3 dc3 pm3 cd3 ct3 oc4 kV4 dc4 pm4 cd4 ct4 oc5 kV5 dc5 pm5 cd5 ct5 oc6 kV6 dc6 pm6 cd6 ct6 oc7 kV7 dc7 pm7 cd7 ct7 oc8 kV8 dc8 pm8 cd8 ct8 oc9 kV9 dc9 pm9 cd9 ct9 oc10 kV10 dc10 pm10 cd10 ct10 oc11 kV11 dc11 pm11 cd11 ct11 oc12 kV12 dc12 pm12 cd12 ct12 : Value}
    (a1 : PySem.W.nsIn K mainGlobals "_piece_from" = some (some (.ref f1))) (l1 : K.lookup f1 = some ⟨oc1, od1, .func (PySem.W.fnOf "_piece_from" "_piece_from" (defArgs s_piece_from) (defBody s_piece_from) (defScope s_piece_from) .none kV1 dc1 pm1 an1 cd1 ct1), sl1⟩) (c1 : PySem.W.codeIn K cd1 "_piece_from" = true) (k1 : PySem.W.keepIn K (.ref f1) = true)
    (a2 : PySem.W.nsIn K mainGlobals "pieces" = some (some (.ref f2))) (l2 : K.lookup f2 = some ⟨oc2, od2, .func (PySem.W.fnOf "pieces" "pieces" (defArgs s_pieces) (defBody s_pieces) (defScope s_pieces) .none kV2 dc2 pm2 an2 cd2 ct2), sl2⟩) (c2 : PySem.W.codeIn K cd2 "pieces" = true) (k2 : PySem.W.keepIn K (.ref f2) = true)
    (a3 : PySem.W.nsIn K mainGlobals "both" = some (some (.ref f3))) (l3 : K.lookup f3 = some ⟨oc3, od3, .func (PySem.W.fnOf "both" "both" (defArgs s_both) (defBody s_both) (defScope s_both) .none kV3 dc3 pm3 an3 cd3 ct3), sl3⟩) (c3 : PySem.W.codeIn K cd3 "both" = true) (k3 : PySem.W.keepIn K (.ref f3) = true)
    (a4 : PySem.W.nsIn K mainGlobals "less" = some (some (.ref f4))) (l4 : K.lookup f4 = some ⟨oc4, od4, .func (PySem.W.fnOf "less" "less" (defArgs s_less) (defBody s_less) (defScope s_less) .none kV4 dc4 pm4 an4 cd4 ct4), sl4⟩) (c4 : PySem.W.codeIn K cd4 "less" = true) (k4 : PySem.W.keepIn K (.ref f4) = true)
    (a5 : PySem.W.nsIn K mainGlobals "_law_begun" = some (some (.ref f5))) (l5 : K.lookup f5 = some ⟨oc5, od5, .func (PySem.W.fnOf "_law_begun" "_law_begun" (defArgs s_law_begun) (defBody s_law_begun) (defScope s_law_begun) .none kV5 dc5 pm5 an5 cd5 ct5), sl5⟩) (c5 : PySem.W.codeIn K cd5 "_law_begun" = true) (k5 : PySem.W.keepIn K (.ref f5) = true)
    (a6 : PySem.W.nsIn K mainGlobals "_law_mixed" = some (some (.ref f6))) (l6 : K.lookup f6 = some ⟨oc6, od6, .func (PySem.W.fnOf "_law_mixed" "_law_mixed" (defArgs s_law_mixed) (defBody s_law_mixed) (defScope s_law_mixed) .none kV6 dc6 pm6 an6 cd6 ct6), sl6⟩) (c6 : PySem.W.codeIn K cd6 "_law_mixed" = true) (k6 : PySem.W.keepIn K (.ref f6) = true)
    (a7 : PySem.W.nsIn K mainGlobals "_law_take" = some (some (.ref f7))) (l7 : K.lookup f7 = some ⟨oc7, od7, .func (PySem.W.fnOf "_law_take" "_law_take" (defArgs s_law_take) (defBody s_law_take) (defScope s_law_take) .none kV7 dc7 pm7 an7 cd7 ct7), sl7⟩) (c7 : PySem.W.codeIn K cd7 "_law_take" = true) (k7 : PySem.W.keepIn K (.ref f7) = true)
    (a8 : PySem.W.nsIn K mainGlobals "_law_pick" = some (some (.ref f8))) (l8 : K.lookup f8 = some ⟨oc8, od8, .func (PySem.W.fnOf "_law_pick" "_law_pick" (defArgs s_law_pick) (defBody s_law_pick) (defScope s_law_pick) .none kV8 dc8 pm8 an8 cd8 ct8), sl8⟩) (c8 : PySem.W.codeIn K cd8 "_law_pick" = true) (k8 : PySem.W.keepIn K (.ref f8) = true)
    (a9 : PySem.W.nsIn K mainGlobals "_law_region" = some (some (.ref f9))) (l9 : K.lookup f9 = some ⟨oc9, od9, .func (PySem.W.fnOf "_law_region" "_law_region" (defArgs s_law_region) (defBody s_law_region) (defScope s_law_region) .none kV9 dc9 pm9 an9 cd9 ct9), sl9⟩) (c9 : PySem.W.codeIn K cd9 "_law_region" = true) (k9 : PySem.W.keepIn K (.ref f9) = true)
    (a10 : PySem.W.nsIn K mainGlobals "_law_painted" = some (some (.ref f10))) (l10 : K.lookup f10 = some ⟨oc10, od10, .func (PySem.W.fnOf "_law_painted" "_law_painted" (defArgs s_law_painted) (defBody s_law_painted) (defScope s_law_painted) .none kV10 dc10 pm10 an10 cd10 ct10), sl10⟩) (c10 : PySem.W.codeIn K cd10 "_law_painted" = true) (k10 : PySem.W.keepIn K (.ref f10) = true)
    (a11 : PySem.W.nsIn K mainGlobals "_law_other" = some (some (.ref f11))) (l11 : K.lookup f11 = some ⟨oc11, od11, .func (PySem.W.fnOf "_law_other" "_law_other" (defArgs s_law_other) (defBody s_law_other) (defScope s_law_other) .none kV11 dc11 pm11 an11 cd11 ct11), sl11⟩) (c11 : PySem.W.codeIn K cd11 "_law_other" = true) (k11 : PySem.W.keepIn K (.ref f11) = true)
    (a12 : PySem.W.nsIn K mainGlobals "law" = some (some (.ref f12))) (l12 : K.lookup f12 = some ⟨oc12, od12, .func (PySem.W.fnOf "law" "law" (defArgs s_law) (defBody s_law) (defScope s_law) .none kV12 dc12 pm12 an12 cd12 ct12), sl12⟩) (c12 : PySem.W.codeIn K cd12 "law" = true) (k12 : PySem.W.keepIn K (.ref f12) = true)
    (z1 : PySem.W.nsIn K mainGlobals "len" = some none)
    (z2 : PySem.W.nsIn K mainGlobals "list" = some none)
    (z3 : PySem.W.nsIn K mainGlobals "tuple" = some none)
    (z4 : PySem.W.nsIn K mainGlobals "sorted" = some none)
    (z5 : PySem.W.nsIn K mainGlobals "range" = some none)
    (z6 : PySem.W.nsIn K mainGlobals "dict" = some none)
    (z7 : PySem.W.nsIn K mainGlobals "set" = some none)
    (z8 : PySem.W.nsIn K mainGlobals "enumerate" = some none)
    (z9 : PySem.W.nsIn K mainGlobals "isinstance" = some none)
    : ∃ fd : FuncData, (∀ (s : Shared) (v : Value), BindsTo s fd ⟨[v], []⟩ [("script", v)]) ∧ ∀ base : Heap, K.In base → base.Ns mainGlobals mg → FnOk l.prog w K mg base CX0 6 fa fd ["script"] (spLaw K) := by
  have e := hfa.symm.trans (PySem.W.mg_of X G a12)
  cases e
  have T : Tb mg := ⟨PySem.W.mg_none_of X G z1, PySem.W.mg_none_of X G z2, PySem.W.mg_none_of X G z3, PySem.W.mg_none_of X G z4, PySem.W.mg_none_of X G z5, PySem.W.mg_none_of X G z6, PySem.W.mg_none_of X G z7, PySem.W.mg_none_of X G z8, PySem.W.mg_none_of X G z9⟩
  have O1 : Own K mg "_piece_from" s_piece_from _ _ ["start", "cells"] := own_mk (w := w) X G a1 l1 c1 k1 fun _ _ _ _ _ _ us hl => match us, hl with | [_, _], _ => rfl
  have O2 : Own K mg "pieces" s_pieces _ _ ["cells"] := own_mk (w := w) X G a2 l2 c2 k2 fun _ _ _ _ _ _ us hl => match us, hl with | [_], _ => rfl
  have O3 : Own K mg "both" s_both _ _ ["one", "other"] := own_mk (w := w) X G a3 l3 c3 k3 fun _ _ _ _ _ _ us hl => match us, hl with | [_, _], _ => rfl
  have O4 : Own K mg "less" s_less _ _ ["one", "other"] := own_mk (w := w) X G a4 l4 c4 k4 fun _ _ _ _ _ _ us hl => match us, hl with | [_, _], _ => rfl
  have O5 : Own K mg "_law_begun" s_law_begun _ _ ["script"] := own_mk (w := w) X G a5 l5 c5 k5 fun _ _ _ _ _ _ us hl => match us, hl with | [_], _ => rfl
  have O6 : Own K mg "_law_mixed" s_law_mixed _ _ ["state"] := own_mk (w := w) X G a6 l6 c6 k6 fun _ _ _ _ _ _ us hl => match us, hl with | [_], _ => rfl
  have O7 : Own K mg "_law_take" s_law_take _ _ ["state", "many"] := own_mk (w := w) X G a7 l7 c7 k7 fun _ _ _ _ _ _ us hl => match us, hl with | [_, _], _ => rfl
  have O8 : Own K mg "_law_pick" s_law_pick _ _ ["state", "some"] := own_mk (w := w) X G a8 l8 c8 k8 fun _ _ _ _ _ _ us hl => match us, hl with | [_, _], _ => rfl
  have O9 : Own K mg "_law_region" s_law_region _ _ ["state", "columns", "rows"] := own_mk (w := w) X G a9 l9 c9 k9 fun _ _ _ _ _ _ us hl => match us, hl with | [_, _, _], _ => rfl
  have O10 : Own K mg "_law_painted" s_law_painted _ _ ["squares"] := own_mk (w := w) X G a10 l10 c10 k10 fun _ _ _ _ _ _ us hl => match us, hl with | [_], _ => rfl
  have O11 : Own K mg "_law_other" s_law_other _ _ ["state", "squares", "columns", "rows"] := own_mk (w := w) X G a11 l11 c11 k11 fun _ _ _ _ _ _ us hl => match us, hl with | [_, _, _, _], _ => rfl
  have O12 : Own K mg "law" s_law _ _ ["script"] := own_mk (w := w) X G a12 l12 c12 k12 fun _ _ _ _ _ _ us hl => match us, hl with | [_], _ => rfl
  refine ⟨PySem.W.fnOf "law" "law" (defArgs s_law) (defBody s_law) (defScope s_law) .none kV12 dc12 pm12 an12 cd12 ct12, fun s v => .of_eq rfl, fun base _ _ => ?_⟩
  have G1 := ok_piece_from (P := l.prog) (w := w) (base := base) T O1
  have Gt := ok_law_take (P := l.prog) (w := w) (base := base) O7 O6
  have Gp := ok_law_pick T O8 O7 Gt
  have Gr := ok_law_region T O9 O7 Gt O8 Gp
  have Go := ok_law_other T O11 O7 Gt O9 Gr
  exact ok_law T O12 O5 (ok_law_begun T O5) O7 Gt O9 Gr O11 Go O10 (ok_law_painted T O10) O2 (ok_pieces T O2 O1 O4) (fun s ws hl => .of_eq (match ws, hl with | [_], _ => rfl)) O3 (ok_both T O3 O4) (fun s ws hl => .of_eq (match ws, hl with | [_, _], _ => rfl)) O4 (ok_less T O4) (fun s ws hl => .of_eq (match ws, hl with | [_, _], _ => rfl))
end K03
open PySem PySem.W PyProof.Rows
set_option maxHeartbeats 0 in
theorem PySem.Challenge.cw_lothouse_k03_pieces_and_cells_holds : PySem.Challenge.rw_lothouse_k03_pieces_and_cells.Holds := by
  w_on; o_law; k_head; (case hw => w_witness2)
  k_fill
  refine L2.walk_of (l := PySem.Challenge.rw_lothouse_k03_pieces_and_cells) (n := 63) (k := 6) (x := "script") (CX := fun _ => L2.CX0) (sp := fun w => K03.spLaw _) rfl (by decide) rfl ⟨rfl, by decide, by decide⟩ (fun w h Y => PySem.W.kIn_of Y) ?F (fun _ _ a ns hl _ hS => ⟨a, ns, rfl, hS, hl, fun _ => rfl⟩) (fun _ _ _ _ _ h => h)
  case F =>
    intro w mg fa h KX G hmg
    refine' K03.all_mk KX G hmg ?a1 ?l1 ?c1 ?k1 ?a2 ?l2 ?c2 ?k2 ?a3 ?l3 ?c3 ?k3 ?a4 ?l4 ?c4 ?k4 ?a5 ?l5 ?c5 ?k5 ?a6 ?l6 ?c6 ?k6 ?a7 ?l7 ?c7 ?k7 ?a8 ?l8 ?c8 ?k8 ?a9 ?l9 ?c9 ?k9 ?a10 ?l10 ?c10 ?k10 ?a11 ?l11 ?c11 ?k11 ?a12 ?l12 ?c12 ?k12 ?z1 ?z2 ?z3 ?z4 ?z5 ?z6 ?z7 ?z8 ?z9
    (case a1 => k_is); (case l1 => k_is); (case c1 => k_is); (case k1 => k_is); (case a2 => k_is); (case l2 => k_is); (case c2 => k_is); (case k2 => k_is); (case a3 => k_is); (case l3 => k_is); (case c3 => k_is); (case k3 => k_is); (case a4 => k_is); (case l4 => k_is); (case c4 => k_is); (case k4 => k_is); (case a5 => k_is); (case l5 => k_is); (case c5 => k_is); (case k5 => k_is); (case a6 => k_is); (case l6 => k_is); (case c6 => k_is); (case k6 => k_is); (case a7 => k_is); (case l7 => k_is); (case c7 => k_is); (case k7 => k_is); (case a8 => k_is); (case l8 => k_is); (case c8 => k_is); (case k8 => k_is); (case a9 => k_is); (case l9 => k_is); (case c9 => k_is); (case k9 => k_is); (case a10 => k_is); (case l10 => k_is); (case c10 => k_is); (case k10 => k_is); (case a11 => k_is); (case l11 => k_is); (case c11 => k_is); (case k11 => k_is); (case a12 => k_is); (case l12 => k_is); (case c12 => k_is); (case k12 => k_is); (case z1 => k_is); (case z2 => k_is); (case z3 => k_is); (case z4 => k_is); (case z5 => k_is); (case z6 => k_is); (case z7 => k_is); (case z8 => k_is); (case z9 => k_is)
