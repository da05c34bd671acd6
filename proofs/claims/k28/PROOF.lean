import PyProof.Rows.All
import Wide.All
import OpenK.AllK
import Wide.FinOn
import HandS.ForMost
import HandS.Deep
import HandS.Star
import HandS.IsInst
import HandS.Strs
import HandS.Sort
import KE.SortData
import KE.DatumOrd
import KE.DatumMore
import HandS.SetFor
import HandS.Small
import KE.KDictPairs
import KE.GoesNew
import HandS.Wide
import HandS.WideBits
import HandS.Gcd
import HandS.TupAny
import HandS.Zip
import HandS.Style
import KE.KRevSl
import HandS.NoneIn
import HandS.TupLe
import HandS.TupSets
import KE.GoesZip
import KE.GoesMore
import PyProof.NeKinds
import PyProof.Rows.IntBool
import PyProof.CallStr
import PyProof.ReprRoads
import PyProof.SumAny
import KE.DataMinMax
import HandS.Conv
import HandS.Text
import PyProof.NeData
import HandS.Codes
import HandS.More
import HandS.DictComp
import HandS.OwnEq
import HandS.FStr
import PyProof.FString3
import PyProof.Rows.StrIntSpec
import HandS.ExcOwn
import HandS.TryOnly
import HandS.WordsExc
import HandS.WordsDict
import HandS.DictTup
import HandS.ListItems
import KE.KItemsList
import PyProof.Transfer
import PySem.Challenge.RW_lothouse_k28_whole_shares_are_one
import PyProof.Rows.ReprOcc
import PyProof.Rows.RegStrFacts
import PyProof.Rows.StrFit
import PyProof.StrLawsRepr
import HandS.Ends
set_option Elab.async false
set_option linter.all false
set_option maxRecDepth 100000
set_option maxHeartbeats 2000000
/-! Data at values, assertions about slots, and what expressions and statements do to them. -/
namespace Lh
open PySem PySem.Spec PyProof.Rows L2

/-! ### data at a value, off the addresses of A -/
/-- no tuple that begins with a whole number: only such are ever known to the object -/
def Fz (xs : List V) : Prop := ∀ i r, xs ≠ .int i :: r
/-- a tuple that is read -/
def RdF (H : Hp) (a : Addr) (xs : List V) : Prop := H a = some (.tup xs) ∨ (Fz xs ∧ ∃ o, H a = some (.frz o (.tup xs)))
theorem RdF.rd {H : Hp} {a : Addr} {xs : List V} (h : RdF H a xs) : Rd H a (.tup xs) := h.imp id fun z => z.2
theorem RdF.int {H : Hp} {a : Addr} {i : Int} {xs : List V} (h : RdF H a (.int i :: xs)) : H a = some (.tup (.int i :: xs)) := h.elim id fun z => absurd rfl (z.1 i xs)
theorem RdF.imp {H H' : Hp} {a : Addr} {xs : List V} (h : RdF H a xs) (k : ∀ o, H a = some o → H' a = some o) : RdF H' a xs := by
  rcases h with h | ⟨f, o, h⟩
  · exact .inl (k _ h)
  · exact .inr ⟨f, o, k _ h⟩
mutual
inductive Dq (A : Addr → Prop) (H : Hp) : V → PyData → Prop
  | non : Dq A H .non .none
  | bl (b : Bool) : Dq A H (.bl b) (.bool b)
  | int (i : Int) : Dq A H (.int i) (.int i)
  | str (x : Str) : Dq A H (.str x) (.str x)
  | lst {a : Addr} {xs : List V} {ds : List PyData} : H a = some (.lst xs) → ¬ A a → DqA A H xs ds → Dq A H (.ref a) (.list ds)
  | tup {a : Addr} {xs : List V} {ds : List PyData} : RdF H a xs → ¬ A a → DqA A H xs ds → Dq A H (.ref a) (.tuple ds)
  | dct {a : Addr} {kvs : List (Key × V)} {ds : List (PyData × PyData)} : Rd H a (.dK kvs) → ¬ A a → DqA A H (kvs.map fun z => kV z.1) (ds.map (·.1)) → DqA A H (kvs.map (·.2)) (ds.map (·.2)) → Dq A H (.ref a) (.dict ds)
  /-- an instance of the class at C: what it is called by its fields' names, and what these hold -/
  | obj {a dx C : Addr} {fs : List (Str × V)} {ns ds : List PyData} : H a = some (.ins C dx fs) → ¬ A a → fs.map (fun z => PyData.str z.1) = ns → DqA A H (fs.map (·.2)) ds → Dq A H (.ref a) (.dict [(.list (.int (Int.ofNat C) :: ns), .tuple ds)])
inductive DqA (A : Addr → Prop) (H : Hp) : List V → List PyData → Prop
  | nil : DqA A H [] []
  | cons {v : V} {vs : List V} {d : PyData} {ds : List PyData} : Dq A H v d → DqA A H vs ds → DqA A H (v :: vs) (d :: ds)
end
abbrev To (A : Addr → Prop) (H : Hp) (A' : Addr → Prop) (H' : Hp) : Prop := ∀ a o, H a = some o → ¬ A a → H' a = some o ∧ ¬ A' a
theorem To.rdF {A A' : Addr → Prop} {H H' : Hp} (k : To A H A' H') {a : Addr} {xs : List V} (h : RdF H a xs) (n : ¬ A a) : RdF H' a xs ∧ ¬ A' a := by
  rcases h with h | ⟨f, o, h⟩
  · exact ⟨.inl (k _ _ h n).1, (k _ _ h n).2⟩
  · exact ⟨.inr ⟨f, o, (k _ _ h n).1⟩, (k _ _ h n).2⟩
theorem To.rd {A A' : Addr → Prop} {H H' : Hp} (k : To A H A' H') {a : Addr} {u : HO} (h : Rd H a u) (n : ¬ A a) : Rd H' a u ∧ ¬ A' a := by
  rcases h with h | ⟨o, h⟩
  · exact ⟨.inl (k _ _ h n).1, (k _ _ h n).2⟩
  · exact ⟨.inr ⟨o, (k _ _ h n).1⟩, (k _ _ h n).2⟩
mutual
theorem Dq.to {A A' : Addr → Prop} {H H' : Hp} (k : To A H A' H') : ∀ {v : V} {d : PyData}, Dq A H v d → Dq A' H' v d
  | _, _, .non => .non
  | _, _, .bl b => .bl b
  | _, _, .int i => .int i
  | _, _, .str x => .str x
  | _, _, .lst h n t => .lst (k _ _ h n).1 (k _ _ h n).2 (DqA.to k t)
  | _, _, .tup h n t => .tup (To.rdF k h n).1 (To.rdF k h n).2 (DqA.to k t)
  | _, _, .dct h n t u => .dct (To.rd k h n).1 (To.rd k h n).2 (DqA.to k t) (DqA.to k u)
  | _, _, .obj h n e t => .obj (k _ _ h n).1 (k _ _ h n).2 e (DqA.to k t)
theorem DqA.to {A A' : Addr → Prop} {H H' : Hp} (k : To A H A' H') : ∀ {vs : List V} {ds : List PyData}, DqA A H vs ds → DqA A' H' vs ds
  | _, _, .nil => .nil
  | _, _, .cons h t => .cons (Dq.to k h) (DqA.to k t)
end
mutual
theorem Dq.dp {A : Addr → Prop} {H : Hp} (K : PySem.W.Frag) : ∀ {v : V} {d : PyData}, d.plain = true → Dq A H v d → Dp K H v d
  | _, _, _, .non => .non
  | _, _, _, .bl b => .bl b
  | _, _, _, .int i => .int i
  | _, _, _, .str x => .str x
  | _, _, p, .lst h n t => .lst (.inl (.inl h)) (DqA.dp K (by simpa only [PyData.plain] using p) t)
  | _, _, p, .tup h n t => .tup (.inl h.rd) (DqA.dp K (by simpa only [PyData.plain] using p) t)
  | _, _, p, .dct _ _ _ _ => by simp [PyData.plain] at p
  | _, _, p, .obj _ _ _ _ => by simp [PyData.plain] at p
theorem DqA.dp {A : Addr → Prop} {H : Hp} (K : PySem.W.Frag) : ∀ {vs : List V} {ds : List PyData}, PyData.plainAll ds = true → DqA A H vs ds → DpAll K H vs ds
  | _, _, _, .nil => .nil
  | _, _, p, .cons h t => by
    simp only [PyData.plainAll, Bool.and_eq_true] at p
    exact .cons (Dq.dp K p.1 h) (DqA.dp K p.2 t)
end
theorem plain_sh {d : PyData} (h : SeqAt.shaped d = true) : d.plain = true := PyData.plain_of_canLay0 d (SeqAt.canLay_of_shaped h)
theorem plainAll_sh {ds : List PyData} (h : SeqAt.shaped (.list ds) = true) : PyData.plainAll ds = true := by
  have := plain_sh h
  simpa only [PyData.plain] using this
theorem DqA.length {A : Addr → Prop} {H : Hp} : ∀ {vs : List V} {ds : List PyData}, DqA A H vs ds → vs.length = ds.length
  | _, _, .nil => rfl
  | _, _, .cons _ t => congrArg (· + 1) (DqA.length t)
theorem DqA.append {A : Addr → Prop} {H : Hp} : ∀ {vs ws : List V} {ds es : List PyData}, DqA A H vs ds → DqA A H ws es → DqA A H (vs ++ ws) (ds ++ es)
  | _, _, _, _, .nil, k => k
  | _, _, _, _, .cons h t, k => .cons h (DqA.append t k)
theorem DqA.get {A : Addr → Prop} {H : Hp} : ∀ {vs : List V} {ds : List PyData} {i : Nat} {d : PyData}, DqA A H vs ds → ds[i]? = some d → ∃ v, vs[i]? = some v ∧ Dq A H v d
  | _, _, _, _, .nil, e => by simp at e
  | _, _, 0, _, .cons h _, e => by
    simp at e
    subst e
    exact ⟨_, rfl, h⟩
  | _, _, i + 1, _, .cons _ t, e => by
    obtain ⟨v, h1, h2⟩ := DqA.get (i := i) t (by simpa using e)
    exact ⟨v, by simpa using h1, h2⟩
theorem DqA.getV {A : Addr → Prop} {H : Hp} : ∀ {vs : List V} {ds : List PyData} {i : Nat} {v : V}, DqA A H vs ds → vs[i]? = some v → ∃ d, ds[i]? = some d ∧ Dq A H v d
  | _, _, _, _, .nil, e => by simp at e
  | _, _, 0, _, .cons h _, e => by
    simp at e
    subst e
    exact ⟨_, rfl, h⟩
  | _, _, i + 1, _, .cons _ t, e => by
    obtain ⟨v, h1, h2⟩ := DqA.getV (i := i) t (by simpa using e)
    exact ⟨v, by simpa using h1, h2⟩
theorem DqA.take {A : Addr → Prop} {H : Hp} : ∀ {vs : List V} {ds : List PyData} (n : Nat), DqA A H vs ds → DqA A H (vs.take n) (ds.take n)
  | _, _, 0, _ => .nil
  | _, _, _ + 1, .nil => .nil
  | _, _, n + 1, .cons h t => .cons h (DqA.take n t)
theorem DqA.drop {A : Addr → Prop} {H : Hp} : ∀ {vs : List V} {ds : List PyData} (n : Nat), DqA A H vs ds → DqA A H (vs.drop n) (ds.drop n)
  | _, _, 0, h => h
  | _, _, _ + 1, .nil => .nil
  | _, _, n + 1, .cons _ t => DqA.drop n t
theorem DqA.ints {A : Addr → Prop} {H : Hp} : ∀ {vs : List V} {ns : List Int}, DqA A H vs (ns.map PyData.int) → vs = ns.map V.int
  | _, [], .nil => rfl
  | _, _ :: _, .cons h t => by
    cases h
    rw [DqA.ints t]
    rfl
theorem DqA.of_ints {A : Addr → Prop} {H : Hp} : ∀ {ns : List Int}, DqA A H (ns.map V.int) (ns.map PyData.int)
  | [] => .nil
  | _ :: _ => .cons (.int _) DqA.of_ints
theorem DqA.strs {A : Addr → Prop} {H : Hp} : ∀ {vs : List V} {ns : List Str}, DqA A H vs (ns.map PyData.str) → vs = ns.map V.str
  | _, [], .nil => rfl
  | _, _ :: _, .cons h t => by
    cases h
    rw [DqA.strs t]
    rfl
theorem DqA.of_strs {A : Addr → Prop} {H : Hp} : ∀ {ns : List Str}, DqA A H (ns.map V.str) (ns.map PyData.str)
  | [] => .nil
  | _ :: _ => .cons (.str _) DqA.of_strs

/-! ### assertions about a value that stay while nothing off A changes -/
structure Im where
  on : (Addr → Prop) → Hp → V → Prop
  mono : ∀ {A A' : Addr → Prop} {H H' : Hp} {v : V}, To A H A' H' → on A H v → on A' H' v
def isD (d : PyData) : Im := ⟨fun A H v => Dq A H v d, fun k h => h.to k⟩
def isP (P : PyData → Prop) : Im := ⟨fun A H v => ∃ d, Dq A H v d ∧ P d, fun k ⟨d, h, p⟩ => ⟨d, h.to k, p⟩⟩
def isV (v : V) : Im := ⟨fun _ _ u => u = v, fun _ h => h⟩
def isI (P : Int → Prop) : Im := ⟨fun _ _ v => ∃ i, v = .int i ∧ P i, fun _ h => h⟩
/-- all that stood at H off A stands -/
def later (A₀ : Addr → Prop) (H₀ : Hp) : Im := ⟨fun A H _ => To A₀ H₀ A H, fun k h a o e n => by
  obtain ⟨h1, h2⟩ := h a o e n
  exact k a o h1 h2⟩
structure Bx where
  on : (Addr → Prop) → Hp → HO → Prop
  mono : ∀ {A A' : Addr → Prop} {H H' : Hp} {o : HO}, To A H A' H' → on A H o → on A' H' o
/-- a list of these data -/
def bL (ds : List PyData) : Bx := ⟨fun A H o => ∃ xs, o = .lst xs ∧ DqA A H xs ds, fun k ⟨xs, e, h⟩ => ⟨xs, e, h.to k⟩⟩
/-- just this -/
def bO (o₀ : HO) : Bx := ⟨fun _ _ o => o = o₀, fun _ h => h⟩

inductive Ag where
  | im (f : Im)
  | box (p : Addr) (b : Bx)
abbrev D (d : PyData) : Ag := .im (isD d)
abbrev U (P : PyData → Prop) : Ag := .im (isP P)
abbrev Vl (v : V) : Ag := .im (isV v)

/-- what stands where data keep off: something, no tuple -/
def Tk (o : Option HO) : Prop := o ≠ none ∧ ∀ xs, o ≠ some (.tup xs)
theorem Tk.lst {xs : List V} : Tk (some (.lst xs)) := ⟨fun z => (nomatch z), fun _ z => (nomatch z)⟩
theorem Tk.dK {xs : List (Key × V)} : Tk (some (.dK xs)) := ⟨fun z => (nomatch z), fun _ z => (nomatch z)⟩
theorem Tk.ins {C dx : Addr} {fs : List (Str × V)} : Tk (some (.ins C dx fs)) := ⟨fun z => (nomatch z), fun _ z => (nomatch z)⟩
theorem Tk.dT {xs : List (List Key × V)} : Tk (some (.dT xs)) := ⟨fun z => (nomatch z), fun _ z => (nomatch z)⟩
/-- where one stands: the heap at the def's start, what may change (M, with its invariant I at a count that ok bounds), what data keep off (A), what is carried (X) -/
structure Md where
  H0 : Hp
  M : Addr → Prop
  I : Nat → Hp → Prop
  ok : Nat → Prop
  A : Addr → Prop
  X : List (V × Im)
  itrk : ∀ {n : Nat} {H : Hp} {a : Addr}, I n H → M a → Tk (H a)
  imono : ∀ {n : Nat} {H H' : Hp}, I n H → (∀ a o, H a = some o → M a → H' a = some o) → I n H'
  iup : ∀ {n n' : Nat} {H : Hp}, I n H → n ≤ n' → I n' H
  okd : ∀ {n n' : Nat}, ok n' → n ≤ n' → ok n

def Ag.on (m : Md) (H : Hp) (v : V) : Ag → Prop
  | .im f => f.on m.A H v
  | .box p b => v = .ref p ∧ m.A p ∧ ¬ m.M p ∧ m.H0 p = none ∧ ∃ o, H p = some o ∧ b.on m.A H o

abbrev Gam := List (Option Ag)
/-- k is what may still be spent -/
structure Env (m : Md) (k : Nat) (Γ : Gam) (σ : L2.St) (H : Hp) : Prop where
  inv : ∃ n, m.ok (n + k) ∧ m.I n H
  fr : ∀ a o, m.H0 a = some o → ¬ m.M a → H a = some o
  sub : ∀ a, m.M a → m.A a
  trk : ∀ a, m.A a → Tk (H a)
  ex : ∀ x ∈ m.X, x.2.on m.A H x.1
  len : σ.length = Γ.length
  sl : ∀ (i : Nat) (g : Ag), Γ[i]? = some (some g) → ∃ v, σ[i]? = some (some v) ∧ g.on m H v

/-- nothing but M changes, which keeps its invariant; at most c is spent -/
structure Stp (m : Md) (c : Nat) (H H' : Hp) : Prop where
  kp : ∀ a o, H a = some o → ¬ m.M a → H' a = some o
  inv : ∀ n, m.ok (n + c) → m.I n H → m.I (n + c) H'

section
variable {m : Md} {k r c d : Nat} {Γ : Gam} {σ : L2.St} {H H' H1 H2 : Hp} {v : V} {g : Ag}
theorem Stp.refl : Stp m 0 H H := ⟨fun _ _ h _ => h, fun _ _ h => h⟩
theorem Stp.trans (a : Stp m c H H1) (b : Stp m d H1 H2) : Stp m (c + d) H H2 := ⟨fun x o h n => b.kp x o (a.kp x o h n) n, fun n ho h => by
  rw [← Nat.add_assoc] at ho ⊢
  exact b.inv _ ho (a.inv n (m.okd ho (Nat.le_add_right _ _)) h)⟩
theorem Stp.le (s : Stp m c H H') (h : c ≤ d := by omega) : Stp m d H H' := ⟨s.kp, fun n ho hi => m.iup (s.inv n (m.okd ho (Nat.add_le_add_left h n)) hi) (Nat.add_le_add_left h n)⟩
theorem Stp.to (s : Stp m c H H') (hs : ∀ a, m.M a → m.A a) : To m.A H m.A H' := fun a o h n => ⟨s.kp a o h fun z => n (hs a z), n⟩
theorem Ag.step (s : Stp m c H H') (hs : ∀ a, m.M a → m.A a) : ∀ {g : Ag}, g.on m H v → g.on m H' v
  | .im f, h => f.mono (s.to hs) h
  | .box p b, ⟨e, h1, h2, h3, o, h4, h5⟩ => ⟨e, h1, h2, h3, o, s.kp p o h4 h2, b.mono (s.to hs) h5⟩
theorem Env.le (E : Env m k Γ σ H) (h : r ≤ k := by omega) : Env m r Γ σ H := by
  obtain ⟨n, ho, hi⟩ := E.inv
  exact ⟨⟨n, m.okd ho (Nat.add_le_add_left h n), hi⟩, E.fr, E.sub, E.trk, E.ex, E.len, E.sl⟩
theorem Env.stepTo (E : Env m k Γ σ H) (kp : ∀ a o, H a = some o → ¬ m.M a → H' a = some o) (hi : ∃ n, m.ok (n + r) ∧ m.I n H') : Env m r Γ σ H' := by
  have t : To m.A H m.A H' := fun a o h n => ⟨kp a o h fun z => n (E.sub a z), n⟩
  refine ⟨hi, fun a o h n => kp a o (E.fr a o h n) n, E.sub, fun a ha => ?_, fun x hx => x.2.mono t (E.ex x hx), E.len, fun i g e => ?_⟩
  · by_cases hm : m.M a
    · obtain ⟨n, _, hi⟩ := hi
      exact m.itrk hi hm
    · cases e : H a with
      | none => exact absurd e (E.trk a ha).1
      | some o =>
        rw [kp a o e hm]
        have := E.trk a ha
        rwa [e] at this
  · obtain ⟨v, h1, h2⟩ := E.sl i g e
    refine ⟨v, h1, ?_⟩
    cases g with
    | im f => exact f.mono t h2
    | box p b =>
      obtain ⟨e, h1, h2, h3, o, h4, h5⟩ := h2
      exact ⟨e, h1, h2, h3, o, kp p o h4 h2, b.mono t h5⟩
theorem Env.step (E : Env m k Γ σ H) (s : Stp m c H H') (h : c + r ≤ k := by omega) : Env m r Γ σ H' := by
  obtain ⟨n, ho, hi⟩ := E.inv
  refine E.stepTo s.kp ⟨n + c, m.okd ho (by omega), s.inv n (m.okd ho (by omega)) hi⟩
theorem Env.free (E : Env m k Γ σ H) {p : Addr} (h : H p = none) : ¬ m.A p := fun z => (E.trk p z).1 h
theorem Env.freeM (E : Env m k Γ σ H) {p : Addr} (h : H p = none) : ¬ m.M p := fun z => E.free h (E.sub p z)
theorem Env.free0 (E : Env m k Γ σ H) {p : Addr} (h : H p = none) : m.H0 p = none := by
  cases e : m.H0 p with
  | none => rfl
  | some o =>
    have := E.fr p o e (E.freeM h)
    rw [h] at this
    cases this
theorem Stp.ext (k : ∀ a o, H a = some o → H' a = some o) : Stp m 0 H H' := ⟨fun a o h _ => k a o h, fun n _ h => m.imono h fun a o h _ => k a o h⟩
theorem ext_new {p : Addr} {o : HO} (h : H p = none) : ∀ a u, H a = some u → (upd H p o) a = some u := fun a u e => by
  rw [upd_ne (ne_of_none e h)]
  exact e
theorem Stp.new {p : Addr} {o : HO} (h : H p = none) : Stp m 0 H (upd H p o) := Stp.ext (ext_new h)
end

/-! ### evaluation -/
def Ev (m : Md) (c : Nat) (te : TE) (Γ : Gam) (g : Ag) : Prop := ∀ σ H, Env m c Γ σ H → ∀ Q : VK, (∀ v H', Stp m c H H' → g.on m H' v → Q v H') → te σ H Q
def EvT (m : Md) (c : Nat) (tt : TT) (Γ : Gam) (P : Bool → Prop) : Prop := ∀ σ H, Env m c Γ σ H → ∀ Q : Bool → Hp → Prop, (∀ b H', Stp m c H H' → P b → Q b H') → tt σ H Q
inductive OnAll (m : Md) (H : Hp) : List V → List Ag → Prop
  | nil : OnAll m H [] []
  | cons {v : V} {vs : List V} {g : Ag} {gs : List Ag} : g.on m H v → OnAll m H vs gs → OnAll m H (v :: vs) (g :: gs)
def EvA (m : Md) (c : Nat) (ta : TA) (Γ : Gam) (gs : List Ag) : Prop := ∀ σ H, Env m c Γ σ H → ∀ Q : List V → Hp → Prop, (∀ vs H', Stp m c H H' → OnAll m H' vs gs → Q vs H') → ta σ H Q
theorem OnAll.step {m : Md} {c : Nat} {H H' : Hp} (s : Stp m c H H') (hs : ∀ a, m.M a → m.A a) : ∀ {vs : List V} {gs : List Ag}, OnAll m H vs gs → OnAll m H' vs gs
  | _, _, .nil => .nil
  | _, _, .cons h t => .cons (Ag.step s hs h) (OnAll.step s hs t)

/-- a flat value's datum -/
inductive Sc : V → PyData → Prop
  | non : Sc .non .none
  | bl (b : Bool) : Sc (.bl b) (.bool b)
  | int (i : Int) : Sc (.int i) (.int i)
  | str (x : Str) : Sc (.str x) (.str x)
theorem Sc.dq {A : Addr → Prop} {H : Hp} : ∀ {v : V} {d : PyData}, Sc v d → Dq A H v d
  | _, _, .non => .non
  | _, _, .bl b => .bl b
  | _, _, .int i => .int i
  | _, _, .str x => .str x

section
variable {m : Md} {ce ca cb ct cu cl cr : Nat} {Γ : Gam} {σ : L2.St} {H H' : Hp} {v x y z : V} {g g1 g2 : Ag} {te ta tb tc : TE} {tt tu : TT} {d e : PyData} {r : R2} {i j k : Int}
theorem Ev.imp (h : Ev m ce te Γ g1) (k : ∀ H v, g1.on m H v → g2.on m H v) : Ev m ce te Γ g2 := fun σ H E Q q => h σ H E.le Q fun v H' s o => q v H' s (k _ _ o)
theorem Ev.eq (h : Ev m ce te Γ (D d)) (k : d = e) : Ev m ce te Γ (D e) := k ▸ h
theorem Ev.toP {P : PyData → Prop} (h : Ev m ce te Γ (D d)) (p : P d) : Ev m ce te Γ (U P) := h.imp fun _ _ o => ⟨d, o, p⟩
theorem Ev.monoP {P P' : PyData → Prop} (h : Ev m ce te Γ (U P)) (p : ∀ d, P d → P' d) : Ev m ce te Γ (U P') := h.imp fun _ _ ⟨d, o, q⟩ => ⟨d, o, p d q⟩
theorem ev_var {n : Nat} (h : Γ[n]? = some (some g)) : Ev m 0 (tVar n) Γ g := fun σ H E Q q => by
  obtain ⟨v, h1, h2⟩ := E.sl n g h
  exact ⟨v, h1, q v H Stp.refl h2⟩
theorem ev_c (h : Sc v d) : Ev m 0 (tC v) Γ (D d) := fun σ H E Q q => q v H Stp.refl h.dq
theorem ev_cV : Ev m 0 (tC v) Γ (Vl v) := fun σ H E Q q => q v H Stp.refl rfl
/-- a two-place operation by values -/
theorem ev_op {g : Ag} (ha : Ev m ca ta Γ g1) (hb : Ev m cb tb Γ g2) (hr : ∀ σ H, Env m 0 Γ σ H → ∀ x y, g1.on m H x → g2.on m H y → ∀ Q : VK, (∀ v H', Stp m 0 H H' → g.on m H' v → Q v H') → r x y H Q) : Ev m (ca + cb) (tOp r ta tb) Γ g :=
  fun σ H E Q q => ha σ H E.le _ fun x H1 s1 o1 => hb σ H1 (E.step s1) _ fun y H2 s2 o2 => hr σ H2 (E.step (s1.trans s2)) x y (Ag.step s2 E.sub o1) o2 Q fun v H3 s3 o3 => q v H3 ((s1.trans s2).trans s3).le o3
theorem ev_opI0 {f : Int → Int → V} (ha : Ev m ca ta Γ (D (.int i))) (hb : Ev m cb tb Γ (D (.int j))) (hd : Sc (f i j) d) : Ev m (ca + cb) (tOp (rI0 f) ta tb) Γ (D d) :=
  ev_op ha hb fun σ H E x y o1 o2 Q q => by
    cases o1
    cases o2
    exact ⟨i, j, rfl, rfl, q _ H Stp.refl hd.dq⟩
theorem ev_opI {C : Int → Int → Prop} {f : Int → Int → V} (ha : Ev m ca ta Γ (D (.int i))) (hb : Ev m cb tb Γ (D (.int j))) (hc : C i j) (hd : Sc (f i j) d) : Ev m (ca + cb) (tOp (rI C f) ta tb) Γ (D d) :=
  ev_op ha hb fun σ H E x y o1 o2 Q q => by
    cases o1
    cases o2
    exact ⟨i, j, rfl, rfl, hc, q _ H Stp.refl hd.dq⟩
theorem ev_opI0P {f : Int → Int → V} {p q : Int → Prop} {P : PyData → Prop} (ha : Ev m ca ta Γ (.im (isI p))) (hb : Ev m cb tb Γ (.im (isI q))) (h : ∀ i j, p i → q j → ∃ d, Sc (f i j) d ∧ P d) : Ev m (ca + cb) (tOp (rI0 f) ta tb) Γ (U P) :=
  ev_op ha hb fun σ H E x y o1 o2 Q k => by
    obtain ⟨i, rfl, hi⟩ := o1
    obtain ⟨j, rfl, hj⟩ := o2
    obtain ⟨d, sd, pd⟩ := h i j hi hj
    exact ⟨i, j, rfl, rfl, k _ H Stp.refl ⟨d, sd.dq, pd⟩⟩
theorem ev_opI0I {f : Int → Int → Int} {p q : Int → Prop} {P : Int → Prop} (ha : Ev m ca ta Γ (.im (isI p))) (hb : Ev m cb tb Γ (.im (isI q))) (h : ∀ i j, p i → q j → P (f i j)) : Ev m (ca + cb) (tOp (rI0 fun i j => .int (f i j)) ta tb) Γ (.im (isI P)) :=
  ev_op ha hb fun σ H E x y o1 o2 Q k => by
    obtain ⟨i, rfl, hi⟩ := o1
    obtain ⟨j, rfl, hj⟩ := o2
    exact ⟨i, j, rfl, rfl, k _ H Stp.refl ⟨_, rfl, h i j hi hj⟩⟩
theorem Ev.toI (h : Ev m ce te Γ (D (.int i))) : Ev m ce te Γ (.im (isI (· = i))) := h.imp fun _ _ o => by
  cases o
  exact ⟨i, rfl, rfl⟩
theorem Ev.toIP {p : Int → Prop} (h : Ev m ce te Γ (D (.int i))) (hp : p i) : Ev m ce te Γ (.im (isI p)) := h.imp fun _ _ o => by
  cases o
  exact ⟨i, rfl, hp⟩
theorem ev_un {f : Int → V} (ha : Ev m ca ta Γ (D (.int i))) (hd : Sc (f i) d) : Ev m ca (tUn (rU f) ta) Γ (D d) := fun σ H E Q q => ha σ H E.le _ fun x H1 s1 o1 => by
  cases o1
  exact ⟨i, rfl, q _ H1 s1 hd.dq⟩
/-- == and != of any data; of flat values by rEq -/
theorem ev_eqD {K : PySem.W.Frag} (ha : Ev m ca ta Γ (D d)) (hb : Ev m cb tb Γ (D e)) (sd : SeqAt.shaped d = true) (se : SeqAt.shaped e = true) : Ev m (ca + cb) (tOp (rEqD K) ta tb) Γ (D (.bool (PyData.eqv d e))) :=
  ev_op ha hb fun σ H E x y o1 o2 Q q => ⟨d, e, Dq.dp K (plain_sh sd) o1, Dq.dp K (plain_sh se) o2, sd, se, q _ H Stp.refl (.bl _)⟩
theorem ev_neD {K : PySem.W.Frag} (ha : Ev m ca ta Γ (D d)) (hb : Ev m cb tb Γ (D e)) (sd : SeqAt.shaped d = true) (se : SeqAt.shaped e = true) : Ev m (ca + cb) (tOp (rNeD K) ta tb) Γ (D (.bool (!PyData.eqv d e))) :=
  ev_op ha hb fun σ H E x y o1 o2 Q q => ⟨d, e, Dq.dp K (plain_sh sd) o1, Dq.dp K (plain_sh se) o2, sd, se, q _ H Stp.refl (.bl _)⟩
theorem ev_inD {K : PySem.W.Frag} {ds : List PyData} (ha : Ev m ca ta Γ (D d)) (hb : Ev m cb tb Γ (D (.list ds))) (sd : SeqAt.shaped d = true) (se : SeqAt.shaped (.list ds) = true) : Ev m (ca + cb) (tOp (rInD K) ta tb) Γ (D (.bool (ds.any fun z => PyData.eqv z d))) :=
  ev_op ha hb fun σ H E x y o1 o2 Q q => ⟨d, ds, Dq.dp K (plain_sh sd) o1, Dq.dp K (plain_sh se) o2, sd, se, q _ H Stp.refl (.bl _)⟩
theorem ev_notInD {K : PySem.W.Frag} {ds : List PyData} (ha : Ev m ca ta Γ (D d)) (hb : Ev m cb tb Γ (D (.list ds))) (sd : SeqAt.shaped d = true) (se : SeqAt.shaped (.list ds) = true) : Ev m (ca + cb) (tOp (rNotInD K) ta tb) Γ (D (.bool (!ds.any fun z => PyData.eqv z d))) :=
  ev_op ha hb fun σ H E x y o1 o2 Q q => ⟨d, ds, Dq.dp K (plain_sh sd) o1, Dq.dp K (plain_sh se) o2, sd, se, q _ H Stp.refl (.bl _)⟩
/-- a list in a box, asked as a datum -/
theorem ev_boxD {K : PySem.W.Frag} {p : Addr} {ds : List PyData} (ha : Ev m ca ta Γ (D d)) (hb : Ev m cb tb Γ (.box p (bL ds))) (sd : SeqAt.shaped d = true) (se : SeqAt.shaped (.list ds) = true) : Ev m (ca + cb) (tOp (rInD K) ta tb) Γ (D (.bool (ds.any fun z => PyData.eqv z d))) :=
  ev_op ha hb fun σ H E x y o1 o2 Q q => by
    obtain ⟨rfl, _, _, _, o, ho, xs, rfl, hx⟩ := o2
    exact ⟨d, ds, Dq.dp K (plain_sh sd) o1, .lst (.inl (.inl ho)) (DqA.dp K (plainAll_sh se) hx), sd, se, q _ H Stp.refl (.bl _)⟩
theorem ev_boxNotD {K : PySem.W.Frag} {p : Addr} {ds : List PyData} (ha : Ev m ca ta Γ (D d)) (hb : Ev m cb tb Γ (.box p (bL ds))) (sd : SeqAt.shaped d = true) (se : SeqAt.shaped (.list ds) = true) : Ev m (ca + cb) (tOp (rNotInD K) ta tb) Γ (D (.bool (!ds.any fun z => PyData.eqv z d))) :=
  ev_op ha hb fun σ H E x y o1 o2 Q q => by
    obtain ⟨rfl, _, _, _, o, ho, xs, rfl, hx⟩ := o2
    exact ⟨d, ds, Dq.dp K (plain_sh sd) o1, .lst (.inl (.inl ho)) (DqA.dp K (plainAll_sh se) hx), sd, se, q _ H Stp.refl (.bl _)⟩

/-! arguments, displays -/
theorem eva_nil : EvA m 0 tNil Γ [] := fun σ H E Q q => q [] H Stp.refl .nil
theorem eva_cons {tr : TA} {gs : List Ag} (ha : Ev m ca ta Γ g) (hr : EvA m cr tr Γ gs) : EvA m (ca + cr) (tCons ta tr) Γ (g :: gs) := fun σ H E Q q =>
  ha σ H E.le _ fun x H1 s1 o1 => hr σ H1 (E.step s1) _ fun xs H2 s2 o2 => q _ H2 (s1.trans s2).le (.cons (Ag.step s2 E.sub o1) o2)
theorem OnAll.data {m : Md} {H : Hp} : ∀ {vs : List V} {ds : List PyData}, OnAll m H vs (ds.map D) → DqA m.A H vs ds
  | _, [], .nil => .nil
  | _, _ :: _, .cons h t => .cons h (OnAll.data t)
theorem OnAll.length {m : Md} {H : Hp} : ∀ {vs : List V} {gs : List Ag}, OnAll m H vs gs → vs.length = gs.length
  | _, _, .nil => rfl
  | _, _, .cons _ t => congrArg (· + 1) (OnAll.length t)
theorem Dq.newT {A : Addr → Prop} {p : Addr} {xs : List V} {ds : List PyData} (np : ¬ A p) (hp : H p = none) (h : DqA A H xs ds) : Dq A (upd H p (.tup xs)) (.ref p) (.tuple ds) :=
  .tup (.inl upd_same) np (h.to fun a o e n => ⟨by rw [upd_ne (ne_of_none e hp)]; exact e, n⟩)
theorem Dq.newL {A : Addr → Prop} {p : Addr} {xs : List V} {ds : List PyData} (np : ¬ A p) (hp : H p = none) (h : DqA A H xs ds) : Dq A (upd H p (.lst xs)) (.ref p) (.list ds) :=
  .lst upd_same np (h.to fun a o e n => ⟨by rw [upd_ne (ne_of_none e hp)]; exact e, n⟩)
theorem ev_tup {t : TA} {ds : List PyData} (h : EvA m cl t Γ (ds.map D)) (hl : ds.length ≤ sizeLine) : Ev m cl (tTup t) Γ (D (.tuple ds)) := fun σ H E Q q =>
  h σ H E.le _ fun xs H1 s1 o1 => ⟨by rw [o1.length, List.length_map]; exact hl, fun p hp =>
    q _ _ (s1.trans (Stp.new hp)).le (Dq.newT ((E.step (r := 0) s1).free hp) hp o1.data)⟩
theorem ev_lst {t : TA} {ds : List PyData} (h : EvA m cl t Γ (ds.map D)) (hl : ds.length ≤ sizeLine) : Ev m cl (tLst t) Γ (D (.list ds)) := fun σ H E Q q =>
  h σ H E.le _ fun xs H1 s1 o1 => ⟨by rw [o1.length, List.length_map]; exact hl, fun p hp =>
    q _ _ (s1.trans (Stp.new hp)).le (Dq.newL ((E.step (r := 0) s1).free hp) hp o1.data)⟩
theorem ev_if {P : Bool → Prop} (h : EvT m ct tt Γ P) (ha : P true → Ev m ca ta Γ g) (hb : P false → Ev m cb tb Γ g) : Ev m (ct + ca + cb) (tIf tt ta tb) Γ g := fun σ H E Q q =>
  h σ H E.le _ fun b H1 s1 p => by
    cases b with
    | true =>
      show ta σ H1 Q
      exact ha p σ H1 (E.step s1) Q fun v H2 s2 o => q v H2 (s1.trans s2).le o
    | false =>
      show tb σ H1 Q
      exact hb p σ H1 (E.step s1) Q fun v H2 s2 o => q v H2 (s1.trans s2).le o
theorem ev_andV {b c : Bool} (ha : Ev m ca ta Γ (D (.bool b))) (hb : b = true → Ev m cb tb Γ (D (.bool c))) : Ev m (ca + cb) (tAndV ta tb) Γ (D (.bool (b && c))) := fun σ H E Q q =>
  ha σ H E.le _ fun x H1 s1 o1 => by
    cases o1
    refine ⟨b, rfl, ?_⟩
    cases b with
    | true =>
      show tb σ H1 Q
      exact hb rfl σ H1 (E.step s1) Q fun v H2 s2 o => q v H2 (s1.trans s2).le o
    | false =>
      show Q (.bl false) H1
      exact q _ H1 s1.le (.bl false)
theorem ev_orV {b c : Bool} (ha : Ev m ca ta Γ (D (.bool b))) (hb : b = false → Ev m cb tb Γ (D (.bool c))) : Ev m (ca + cb) (tOrV ta tb) Γ (D (.bool (b || c))) := fun σ H E Q q =>
  ha σ H E.le _ fun x H1 s1 o1 => by
    cases o1
    refine ⟨b, rfl, ?_⟩
    cases b with
    | true =>
      show Q (.bl true) H1
      exact q _ H1 s1.le (.bl true)
    | false =>
      show tb σ H1 Q
      exact hb rfl σ H1 (E.step s1) Q fun v H2 s2 o => q v H2 (s1.trans s2).le o
theorem ev_notV {b : Bool} (ha : Ev m ca ta Γ (D (.bool b))) : Ev m ca (tNotV ta) Γ (D (.bool (!b))) := fun σ H E Q q =>
  ha σ H E.le _ fun x H1 s1 o1 => by
    cases o1
    exact ⟨b, rfl, q _ H1 s1 (.bl _)⟩

/-! tests -/
theorem EvT.imp {P P' : Bool → Prop} (h : EvT m ct tt Γ P) (k : ∀ b, P b → P' b) : EvT m ct tt Γ P' := fun σ H E Q q => h σ H E.le Q fun b H' s p => q b H' s (k b p)
theorem et_test {b : Bool} (h : Ev m ce te Γ (D (.bool b))) : EvT m ce (tTest te) Γ (· = b) := fun σ H E Q q => h σ H E.le _ fun x H1 s1 o1 => by
  cases o1
  exact ⟨b, rfl, q b H1 s1 rfl⟩
theorem et_B {b : Bool} (h : Ev m ce te Γ (D (.bool b))) : EvT m ce (tB te) Γ (· = b) := fun σ H E Q q => h σ H E.le _ fun x H1 s1 o1 => by
  cases o1
  exact ⟨b, rfl, q b H1 s1 rfl⟩
theorem et_testP {P : Bool → Prop} (h : Ev m ce te Γ (U fun d => ∃ b, d = .bool b ∧ P b)) : EvT m ce (tTest te) Γ P := fun σ H E Q q => h σ H E.le _ fun x H1 s1 ⟨d, o1, b, e, p⟩ => by
  subst e
  cases o1
  exact ⟨b, rfl, q b H1 s1 p⟩
theorem et_and {P P' : Bool → Prop} (h1 : EvT m ct tt Γ P) (h2 : P true → EvT m cu tu Γ P') (hf : P false → P' false) : EvT m (ct + cu) (tAnd tt tu) Γ P' := fun σ H E Q q => h1 σ H E.le _ fun b H1 s1 p => by
  cases b with
  | true =>
    show tu σ H1 Q
    exact h2 p σ H1 (E.step s1) Q fun c H2 s2 p2 => q c H2 (s1.trans s2).le p2
  | false =>
    show Q false H1
    exact q false H1 s1.le (hf p)
theorem et_or {P P' : Bool → Prop} (h1 : EvT m ct tt Γ P) (h2 : P false → EvT m cu tu Γ P') (hf : P true → P' true) : EvT m (ct + cu) (tOr tt tu) Γ P' := fun σ H E Q q => h1 σ H E.le _ fun b H1 s1 p => by
  cases b with
  | false =>
    show tu σ H1 Q
    exact h2 p σ H1 (E.step s1) Q fun c H2 s2 p2 => q c H2 (s1.trans s2).le p2
  | true =>
    show Q true H1
    exact q true H1 s1.le (hf p)
theorem et_not {P : Bool → Prop} (h : EvT m ct tt Γ P) : EvT m ct (tNot tt) Γ (fun b => P (!b)) := fun σ H E Q q => h σ H E.le _ fun b H1 s1 p => q (!b) H1 s1 (by show P (!!b); rw [Bool.not_not]; exact p)
theorem et_yes : EvT m 0 tYes Γ (· = true) := fun σ H E Q q => q true H Stp.refl rfl
theorem Ev.up {c c' : Nat} {g : Ag} (h : Ev m c te Γ g) (k : c ≤ c' := by omega) : Ev m c' te Γ g := fun σ H E Q q => h σ H E.le Q fun v H' s o => q v H' s.le o
theorem EvT.up {c c' : Nat} {P : Bool → Prop} (h : EvT m c tt Γ P) (k : c ≤ c' := by omega) : EvT m c' tt Γ P := fun σ H E Q q => h σ H E.le Q fun b H' s p => q b H' s.le p
end
end Lh

set_option Elab.async false
set_option linter.all false
set_option maxRecDepth 100000
set_option maxHeartbeats 2000000
namespace Lh
open PySem PySem.Spec PyProof.Rows L2

/-! ### places: more to keep off, more to carry -/
def Md.add (m : Md) (p : Addr) : Md := { m with A := fun a => m.A a ∨ a = p }
def Md.del (m : Md) (p : Addr) : Md := { m with A := fun a => m.A a ∧ a ≠ p }
def Md.car (m : Md) (v : V) (f : Im) : Md := { m with X := (v, f) :: m.X }
def Md.lt (m : Md) (H : Hp) : Md := m.car .non (later m.A H)
section
variable {m : Md} {k r c : Nat} {Γ : Gam} {σ : L2.St} {H H' H1 H2 : Hp} {v : V} {g : Ag} {p : Addr}
theorem to_addNew {A : Addr → Prop} {o : HO} (h : H p = none) : To A H (fun a => A a ∨ a = p) (upd H p o) := fun a u e n => by
  have hne : a ≠ p := ne_of_none e h
  exact ⟨by rw [upd_ne hne]; exact e, fun z => z.elim n hne⟩
/-- no slot's box is at p -/
def NoBox (p : Addr) (Γ : Gam) : Prop := ∀ (i : Nat) (q : Addr) (b : Bx), Γ[i]? = some (some (Ag.box q b)) → q ≠ p
theorem Env.made (E : Env m k Γ σ H) {o : HO} (h : H p = none) (ho : Tk (some o) := by first | exact Tk.lst | exact Tk.dK | exact Tk.dT | exact Tk.ins) : Env (m.add p) k Γ σ (upd H p o) := by
  have kk : ∀ a u, H a = some u → (upd H p o) a = some u := ext_new h
  refine ⟨E.inv.imp fun n hn => ⟨hn.1, m.imono hn.2 fun a u e _ => kk a u e⟩, fun a u e n => kk a u (E.fr a u e n), fun a ha => .inl (E.sub a ha), fun a ha => ?_, fun x hx => x.2.mono (to_addNew h) (E.ex x hx), E.len, fun i g e => ?_⟩
  · rcases ha with ha | rfl
    · cases e : H a with
      | none => exact absurd e (E.trk a ha).1
      | some u =>
        rw [kk a u e]
        have := E.trk a ha
        rwa [e] at this
    · rw [upd_same]; exact ho
  · obtain ⟨v, h1, h2⟩ := E.sl i g e
    refine ⟨v, h1, ?_⟩
    cases g with
    | im f => exact f.mono (to_addNew h) h2
    | box q b =>
      obtain ⟨e1, h3, h4, h5, u, h6, h7⟩ := h2
      exact ⟨e1, .inl h3, h4, h5, u, kk q u h6, b.mono (to_addNew h) h7⟩
/-- what stands at a box changes -/
theorem Env.put (E : Env m k Γ σ H) {o : HO} (hA : m.A p) (hM : ¬ m.M p) (h0 : m.H0 p = none) (hb : NoBox p Γ) (ho : Tk (some o) := by first | exact Tk.lst | exact Tk.dK | exact Tk.dT | exact Tk.ins) : Env m k Γ σ (upd H p o) := by
  have kk : ∀ a u, a ≠ p → H a = some u → (upd H p o) a = some u := fun a u n e => by rw [upd_ne n]; exact e
  have t : To m.A H m.A (upd H p o) := fun a u e n => ⟨kk a u (fun z => n (z ▸ hA)) e, n⟩
  refine ⟨E.inv.imp fun n hn => ⟨hn.1, m.imono hn.2 fun a u e hm => kk a u (fun z => hM (z ▸ hm)) e⟩, fun a u e n => kk a u (fun z => by rw [z, h0] at e; cases e) (E.fr a u e n), E.sub, fun a ha => ?_, fun x hx => x.2.mono t (E.ex x hx), E.len, fun i g e => ?_⟩
  · by_cases z : a = p
    · rw [z, upd_same]; exact ho
    · rw [upd_ne z]; exact E.trk a ha
  · obtain ⟨v, h1, h2⟩ := E.sl i g e
    refine ⟨v, h1, ?_⟩
    cases g with
    | im f => exact f.mono t h2
    | box q b =>
      obtain ⟨e1, h3, h4, h5, u, h6, h7⟩ := h2
      exact ⟨e1, h3, h4, h5, u, kk q u (hb i q b e) h6, b.mono t h7⟩
theorem Env.set (E : Env m k Γ σ H) {i : Nat} (h : g.on m H v) : Env m k (Γ.set i (some g)) (σ.set i (some v)) H := by
  refine ⟨E.inv, E.fr, E.sub, E.trk, E.ex, by rw [List.length_set, List.length_set]; exact E.len, fun j g' e => ?_⟩
  by_cases z : i = j
  · subst z
    by_cases hl : i < Γ.length
    · rw [List.getElem?_set_self hl] at e
      cases e
      exact ⟨v, by rw [List.getElem?_set_self (by rw [E.len]; exact hl)], h⟩
    · rw [List.getElem?_eq_none (by rw [List.length_set]; omega)] at e
      cases e
  · rw [List.getElem?_set_ne z] at e
    obtain ⟨u, h1, h2⟩ := E.sl j g' e
    exact ⟨u, by rw [List.getElem?_set_ne z]; exact h1, h2⟩
/-- weaker words for the slots -/
theorem Env.weak {Γ' : Gam} (E : Env m k Γ σ H) (hl : Γ'.length = Γ.length) (h : ∀ (i : Nat) (g' : Ag), Γ'[i]? = some (some g') → ∃ g : Ag, Γ[i]? = some (some g) ∧ ∀ v, g.on m H v → g'.on m H v) : Env m k Γ' σ H :=
  ⟨E.inv, E.fr, E.sub, E.trk, E.ex, E.len.trans hl.symm, fun i g' e => by
    obtain ⟨g, e1, k⟩ := h i g' e
    obtain ⟨v, h1, h2⟩ := E.sl i g e1
    exact ⟨v, h1, k v h2⟩⟩
def wipeG (Γ : Gam) : List Nat → Gam
  | [] => Γ
  | v :: vs => (wipeG Γ vs).set v none
theorem Env.drop1 (E : Env m k Γ σ H) (i : Nat) {o : Option V} : Env m k (Γ.set i none) (σ.set i o) H := by
  refine ⟨E.inv, E.fr, E.sub, E.trk, E.ex, by rw [List.length_set, List.length_set]; exact E.len, fun j g' e => ?_⟩
  by_cases z : i = j
  · subst z
    by_cases hl : i < Γ.length
    · rw [List.getElem?_set_self hl] at e
      cases e
    · rw [List.getElem?_eq_none (by rw [List.length_set]; omega)] at e
      cases e
  · rw [List.getElem?_set_ne z] at e
    obtain ⟨u, h1, h2⟩ := E.sl j g' e
    exact ⟨u, by rw [List.getElem?_set_ne z]; exact h1, h2⟩
theorem Env.forget (E : Env m k Γ σ H) (i : Nat) : Env m k (Γ.set i none) σ H := by
  refine ⟨E.inv, E.fr, E.sub, E.trk, E.ex, by rw [List.length_set]; exact E.len, fun j g' e => ?_⟩
  by_cases z : i = j
  · subst z
    by_cases hl : i < Γ.length
    · rw [List.getElem?_set_self hl] at e
      cases e
    · rw [List.getElem?_eq_none (by rw [List.length_set]; omega)] at e
      cases e
  · rw [List.getElem?_set_ne z] at e
    exact E.sl j g' e
theorem Env.wipe (E : Env m k Γ σ H) : ∀ vs : List Nat, Env m k (wipeG Γ vs) (wipe σ vs) H
  | [] => E
  | v :: vs => (E.wipe vs).drop1 v
theorem Env.car (E : Env m k Γ σ H) {f : Im} (h : f.on m.A H v) : Env (m.car v f) k Γ σ H :=
  ⟨E.inv, E.fr, E.sub, E.trk, fun x hx => by
    rcases List.mem_cons.mp hx with rfl | hx
    · exact h
    · exact E.ex x hx, E.len, fun i g e => by
    obtain ⟨v, h1, h2⟩ := E.sl i g e
    refine ⟨v, h1, ?_⟩
    cases g with
    | im f => exact h2
    | box q b => exact h2⟩
theorem Env.lt (E : Env m k Γ σ H) : Env (m.lt H) k Γ σ H := E.car (v := .non) (f := later m.A H) fun a o e n => ⟨e, n⟩
theorem Env.uncar {f : Im} (E : Env (m.car v f) k Γ σ H) : Env m k Γ σ H :=
  ⟨E.inv, E.fr, E.sub, E.trk, fun x hx => E.ex x (List.mem_cons_of_mem _ hx), E.len, fun i g e => by
    obtain ⟨v, h1, h2⟩ := E.sl i g e
    refine ⟨v, h1, ?_⟩
    cases g with
    | im f => exact h2
    | box q b => exact h2⟩
theorem Env.held {f : Im} (E : Env (m.car v f) k Γ σ H) : f.on m.A H v := E.ex (v, f) List.mem_cons_self
/-- a box is left: what stands there changes no more -/
theorem To.del {A : Addr → Prop} : To A H (fun a => A a ∧ a ≠ p) H := fun a o e n => ⟨e, fun z => n z.1⟩
theorem Env.leave (E : Env m k Γ σ H) (hM : ¬ m.M p) (hb : NoBox p Γ) : Env (m.del p) k Γ σ H := by
  refine ⟨E.inv, E.fr, fun a ha => ⟨E.sub a ha, fun z => hM (z ▸ ha)⟩, fun a ha => E.trk a ha.1, fun x hx => x.2.mono To.del (E.ex x hx), E.len, fun i g e => ?_⟩
  obtain ⟨v, h1, h2⟩ := E.sl i g e
  refine ⟨v, h1, ?_⟩
  cases g with
  | im f => exact f.mono To.del h2
  | box q b =>
    obtain ⟨e1, h3, h4, h5, u, h6, h7⟩ := h2
    exact ⟨e1, ⟨h3, hb i q b e⟩, h4, h5, u, h6, b.mono To.del h7⟩
theorem NoBox.set {i : Nat} {f : Im} (h : NoBox p Γ) : NoBox p (Γ.set i (some (.im f))) := fun j q b e => by
  by_cases z : i = j
  · subst z
    by_cases hl : i < Γ.length
    · rw [List.getElem?_set_self hl] at e
      cases e
    · rw [List.getElem?_eq_none (by rw [List.length_set]; omega)] at e
      cases e
  · rw [List.getElem?_set_ne z] at e
    exact h j q b e
/-- a list's box becomes a datum: nothing is to change it any more -/
theorem Env.seal (E : Env m k Γ σ H) {i : Nat} {ds : List PyData} (h : Γ[i]? = some (some (.box p (bL ds)))) (hb : NoBox p (Γ.set i none)) : Env (m.del p) k (Γ.set i (some (D (.list ds)))) σ H := by
  obtain ⟨v, h1, rfl, h3, h4, h5, o, h6, xs, rfl, h7⟩ := E.sl i _ h
  have E1 := (E.forget i).leave h4 hb
  have E2 := E1.set (i := i) (v := .ref p) (g := D (.list ds)) (.lst h6 (fun z => z.2 rfl) (h7.to To.del))
  rw [List.set_set] at E2
  have es : σ.set i (some (V.ref p)) = σ := by
    obtain ⟨hl, e⟩ := List.getElem?_eq_some_iff.mp h1
    rw [← e]
    exact List.set_getElem_self hl
  rw [es] at E2
  exact E2
end

/-! ### what is walked -/
def Walks (A₀ : Addr → Prop) (H1 : Hp) (J : It) (gs : List Im) : Prop := ∀ (A' : Addr → Prop) H', To A₀ H1 A' H' → (∀ a, A' a → Tk (H' a)) →
  (∀ i g, gs[i]? = some g → J.go i H' ∧ ∀ x H'', J.yld i H' x H'' → (∀ a o, H' a = some o → H'' a = some o) ∧ g.on A' H'' x) ∧ J.stop gs.length H'
def EvI (m : Md) (c : Nat) (wi : TI) (Γ : Gam) (gs : List Im) : Prop := ∀ σ H, Env m c Γ σ H → ∀ R : It → Hp → Prop, (∀ J H', Stp m c H H' → Walks m.A H' J gs → R J H') → wi σ H R
section
variable {m : Md} {ce cx k : Nat} {Γ : Gam} {σ : L2.St} {H H' : Hp} {te tx : TE} {ta : TA} {ds : List PyData} {K : PySem.W.Frag}
theorem walks_lst {A₀ : Addr → Prop} {a : Addr} (h : Dq A₀ H (.ref a) (.list ds)) : Walks A₀ H (Itl K a) (ds.map isD) := fun A' H' k hA => by
  cases h with
  | lst h1 h2 h3 =>
    rename_i xs
    have e := (k _ _ h1 h2).1
    have h4 := h3.to k
    refine ⟨fun i g hg => ?_, xs, .inl (.inl e), ?_⟩
    · rw [List.getElem?_map] at hg
      cases ed : ds[i]? with
      | none => rw [ed] at hg; cases hg
      | some d =>
        rw [ed] at hg
        cases hg
        obtain ⟨v, ev, hv⟩ := h4.get ed
        refine ⟨⟨xs, v, .inl (.inl e), ev⟩, fun x H'' hy => ?_⟩
        obtain ⟨rfl, hy⟩ := hy
        have := hy xs (.inl (.inl e))
        rw [ev] at this
        cases this
        exact ⟨fun _ _ h => h, hv⟩
    · rw [List.length_map, h4.length]
      exact Nat.le_refl _
theorem walks_tup {A₀ : Addr → Prop} {a : Addr} (h : Dq A₀ H (.ref a) (.tuple ds)) : Walks A₀ H (Itt K a) (ds.map isD) := fun A' H' k hA => by
  cases h with
  | tup h1 h2 h3 =>
    rename_i xs
    have e := (To.rd k h1.rd h2).1
    have h4 := h3.to k
    refine ⟨fun i g hg => ?_, xs, .inl e, ?_⟩
    · rw [List.getElem?_map] at hg
      cases ed : ds[i]? with
      | none => rw [ed] at hg; cases hg
      | some d =>
        rw [ed] at hg
        cases hg
        obtain ⟨v, ev, hv⟩ := h4.get ed
        refine ⟨⟨xs, v, .inl e, ev⟩, fun x H'' hy => ?_⟩
        obtain ⟨rfl, hy⟩ := hy
        have := hy xs (.inl e)
        rw [ev] at this
        cases this
        exact ⟨fun _ _ h => h, hv⟩
    · rw [List.length_map, h4.length]
      exact Nat.le_refl _
theorem ei_list (h : Ev m ce te Γ (D (.list ds))) : EvI m ce (iList K te) Γ (ds.map isD) := fun σ H E R q => h σ H E.le _ fun v H' s o => by
  have o' : Dq m.A H' v (.list ds) := o
  cases o' with
  | lst h1 h2 h3 => exact ⟨_, rfl, ⟨_, .inl (.inl h1)⟩, q _ _ s (walks_lst (.lst h1 h2 h3))⟩
theorem ei_tup (h : Ev m ce te Γ (D (.tuple ds))) : EvI m ce (iTup K te) Γ (ds.map isD) := fun σ H E R q => h σ H E.le _ fun v H' s o => by
  have o' : Dq m.A H' v (.tuple ds) := o
  cases o' with
  | tup h1 h2 h3 => exact ⟨_, rfl, ⟨_, .inl h1.rd⟩, q _ _ s (walks_tup (.tup h1 h2 h3))⟩
/-- the ints lo, lo + 1, .. (n of them) -/
def rng (lo : Int) (n : Nat) : List PyData := (List.range n).map fun i => .int (lo + (i : Nat))
theorem walks_rng {A₀ : Addr → Prop} {lo : Int} {n : Nat} : Walks A₀ H (Itr lo n) ((rng lo n).map isD) := fun A' H' k hA => by
  refine ⟨fun i g hg => ?_, ?_⟩
  · unfold rng at hg
    rw [List.map_map, List.getElem?_map] at hg
    by_cases hi : i < n
    · rw [List.getElem?_range hi] at hg
      cases hg
      refine ⟨hi, fun x H'' hy => ?_⟩
      obtain ⟨rfl, rfl⟩ := hy
      exact ⟨fun _ _ h => h, .int _⟩
    · rw [List.getElem?_eq_none (by rw [List.length_range]; omega)] at hg
      cases hg
  · show n ≤ _
    unfold rng
    rw [List.length_map, List.length_map, List.length_range]
    exact Nat.le_refl _
theorem ei_rng1 {n : Int} (h : Ev m ce te Γ (D (.int n))) (h1 : -(2 ^ 62) ≤ n) (h2 : n < 2 ^ 62) : EvI m ce (iRng1 (tCons te tNil)) Γ ((rng 0 n.toNat).map isD) := fun σ H E R q => h σ H E.le _ fun v H' s o => by
  cases o
  exact ⟨n, rfl, h1, h2, q _ _ s walks_rng⟩
theorem ei_rng2 {a n : Int} (h : Ev m ce te Γ (D (.int a))) (h' : Ev m cx tx Γ (D (.int n))) (hb : -(2 ^ 62) ≤ a ∧ a < 2 ^ 62 ∧ -(2 ^ 62) ≤ n ∧ n < 2 ^ 62) : EvI m (ce + cx) (iRng2 (tCons te (tCons tx tNil))) Γ ((rng a (n - a).toNat).map isD) := fun σ H E R q => h σ H E.le _ fun v H' s o => by
  cases o
  refine h' σ H' (E.step s) _ fun v2 H2 s2 o2 => ?_
  cases o2
  exact ⟨a, n, rfl, hb, q _ _ (s.trans s2).le walks_rng⟩
/-- a text's signs -/
def signsD (z : Str) : List PyData := z.cps.toList.map fun c => .str ⟨#[c]⟩
theorem walks_str {A₀ : Addr → Prop} {z : Str} : Walks A₀ H (Its z) ((signsD z).map isD) := fun A' H' k hA => by
  refine ⟨fun i g hg => ?_, ?_⟩
  · unfold signsD at hg
    rw [List.map_map, List.getElem?_map] at hg
    cases e : z.cps.toList[i]? with
    | none => rw [e] at hg; cases hg
    | some c =>
      rw [e] at hg
      cases hg
      have e' : z.cps[i]? = some c := by rw [← Array.getElem?_toList]; exact e
      refine ⟨by
        have := (Array.getElem?_eq_some_iff.mp e').1
        exact this, fun x H'' hy => ?_⟩
      obtain ⟨rfl, c', ec, rfl⟩ := hy
      rw [e'] at ec
      cases ec
      exact ⟨fun _ _ h => h, .str _⟩
  · show z.cps.size ≤ _
    unfold signsD
    rw [List.length_map, List.length_map, Array.length_toList]
    exact Nat.le_refl _
theorem ei_str {z : Str} (h : Ev m ce te Γ (D (.str z))) : EvI m ce (iStr te) Γ ((signsD z).map isD) := fun σ H E R q => h σ H E.le _ fun v H' s o => by
  cases o
  exact ⟨z, rfl, q _ _ s walks_str⟩

/-! ### targets -/
/-- taking such a value leads to such slots -/
def Tg (m : Md) (g : TG) (Γ : Gam) (f : Im) (Γ' : Gam) (vs : List Nat) : Prop := ∀ k σ H v, Env m k Γ σ H → f.on m.A H v → ∀ Q : L2.St → Hp → Prop, (∀ σ', Env m k Γ' σ' H → (∀ ws : List Nat, (∀ i ∈ vs, i ∈ ws) → wipe σ' ws = wipe σ ws) → Q σ' H) → g v σ H Q
theorem wipe_set {x : Option V} {i : Nat} : ∀ (ws : List Nat) (σ : L2.St), i ∈ ws → wipe (σ.set i x) ws = wipe σ ws
  | [], _, h => absurd h (by simp)
  | w :: ws, σ, h => by
    unfold wipe
    by_cases hi : i ∈ ws
    · rw [wipe_set ws σ hi]
    · have e : i = w := by
        rcases List.mem_cons.mp h with h | h
        · exact h
        · exact absurd h hi
      subst e
      have : ∀ (us : List Nat) (τ : L2.St), i ∉ us → wipe (τ.set i x) us = (wipe τ us).set i x := by
        intro us
        induction us with
        | nil => intro τ _; rfl
        | cons u us ih =>
          intro τ hn
          unfold wipe
          rw [ih τ (fun z => hn (List.mem_cons_of_mem _ z)), List.set_comm _ _ (fun z => hn (by rw [z]; exact List.mem_cons_self))]
      rw [this ws σ hi, List.set_set]
theorem tg_name {i : Nat} {f : Im} : Tg m (gName i) Γ f (Γ.set i (some (.im f))) [i] := fun k σ H v E o Q q =>
  q _ (E.set o) fun ws h => wipe_set ws σ (h i (by simp))
theorem tg_pair {i j : Nat} {d e : PyData} (hij : i ≠ j) : Tg m (gTup K 2 (gCons (gName i) (gCons (gName j) gNil))) Γ (isD (.tuple [d, e])) ((Γ.set i (some (D d))).set j (some (D e))) [i, j] := fun k σ H v E o Q q => by
  have o' : Dq m.A H v (.tuple [d, e]) := o
  cases o' with
  | tup h1 h2 h3 =>
    cases h3 with
    | cons a1 h4 =>
      cases h4 with
      | cons a2 h5 =>
        cases h5
        exact ⟨_, _, rfl, .inl h1.rd, rfl, _, _, rfl, _, _, rfl, rfl, q _ ((E.set (g := D d) a1).set (g := D e) a2) fun ws h => by
          rw [wipe_set ws _ (h j (by simp)), wipe_set ws _ (h i (by simp))]⟩
end
end Lh

set_option Elab.async false
set_option linter.all false
set_option maxRecDepth 100000
set_option maxHeartbeats 2000000
namespace Lh
open PySem PySem.Spec PyProof.Rows L2

section
variable {m : Md} {k r c cw ct ce ca : Nat} {Γ : Gam} {σ : L2.St} {H H' H1 H2 : Hp} {v : V} {g : Ag} {p : Addr} {wi : TI} {tg : TG} {tt : TT} {te ta tb : TE} {t : TA} {tbd tth tel : TS} {K : PySem.W.Frag} {De : Ends} {d : PyData} {ds : List PyData}
theorem wipe_wipe : ∀ (vs : List Nat) (σ : L2.St), wipe (wipe σ vs) vs = wipe σ vs := fun vs σ => by
  have : ∀ (us : List Nat), (∀ u ∈ us, u ∈ vs) → wipe (wipe σ us) vs = wipe σ vs := by
    intro us
    induction us with
    | nil => intro _; rfl
    | cons u us ih =>
      intro h
      show wipe ((wipe σ us).set u none) vs = wipe σ vs
      rw [wipe_set vs _ (h u List.mem_cons_self), ih fun u' h' => h u' (List.mem_cons_of_mem _ h')]
  exact this vs fun _ h => h
theorem Env.noBox (E : Env m k Γ σ H) (h : H p = none) : NoBox p Γ := fun i q b e => by
  obtain ⟨v, _, _, _, _, _, o, h6, _⟩ := E.sl i _ e
  exact ne_of_none h6 h

/-- a comprehension: Rl i es, the first i items have given es -/
theorem ev_lc {gs : List Im} {vs : List Nat} (hI : EvI m cw wi Γ gs) (hz : gs.length ≤ sizeLine) (Rl : Nat → List PyData → Prop) (h0 : Rl 0 [])
    (hs : ∀ Dp i g es, gs[i]? = some g → Rl i es → ∃ Γ' vs0, Tg (m.add Dp) tg (wipeG Γ vs) g Γ' vs0 ∧ (∀ i ∈ vs0, i ∈ vs) ∧ ∃ P : Bool → Prop, EvT (m.add Dp) ct tt Γ' P ∧
      (P true → ∃ G, Ev (m.add Dp) ce te Γ' (U G) ∧ ∀ e, G e → Rl (i + 1) (es ++ [e])) ∧ (P false → Rl (i + 1) es)) :
    Ev m (cw + gs.length * (ct + ce)) (tLc wi tg tt te vs) Γ (U fun d => ∃ es, d = .list es ∧ Rl gs.length es ∧ es.length ≤ gs.length) := fun σ H E Q q => hI σ H E.le _ fun J H1 s1 wk Dp hD => by
  have E1 : Env m (gs.length * (ct + ce)) Γ σ H1 := E.step s1
  have nM : ¬ m.M Dp := E1.freeM hD
  have nA : ¬ m.A Dp := E1.free hD
  have nb : NoBox Dp (wipeG Γ vs) := (E1.wipe vs).noBox hD
  refine ⟨fun i n H2 => n + i = gs.length ∧ Stp m (i * (ct + ce)) H1 H2 ∧ Env (m.add Dp) (n * (ct + ce)) (wipeG Γ vs) (wipe σ vs) H2 ∧ ∃ acc es, H2 Dp = some (.lst acc) ∧ DqA (m.add Dp).A H2 acc es ∧ Rl i es ∧ es.length ≤ i,
    ⟨gs.length, rfl, (Stp.new hD).le, (E1.wipe vs).made hD, [], [], upd_same, .nil, h0, Nat.le_refl _⟩, fun i n H2 ⟨en, s2, E2, acc, es, eD, ha, hr, hl⟩ => ?_⟩
  have k2 : To m.A H1 (m.add Dp).A H2 := fun a o h n => ⟨s2.kp a o h fun z => n (E1.sub a z), fun z => z.elim n (ne_of_none h hD)⟩
  obtain ⟨w1, w2⟩ := wk (m.add Dp).A H2 k2 E2.trk
  by_cases hi : i < gs.length
  · obtain ⟨go, turn⟩ := w1 i gs[i] (List.getElem?_eq_getElem hi)
    obtain ⟨n', rfl⟩ : ∃ n', n = n' + 1 := ⟨n - 1, by omega⟩
    have eu : (n' + 1) * (ct + ce) = n' * (ct + ce) + (ct + ce) := Nat.succ_mul ..
    have ev : (i + 1) * (ct + ce) = i * (ct + ce) + (ct + ce) := Nat.succ_mul ..
    refine .inr ⟨go, fun H3 => Stp m ((i + 1) * (ct + ce)) H1 H3 ∧ Env (m.add Dp) (n' * (ct + ce)) (wipeG Γ vs) (wipe σ vs) H3 ∧ ∃ acc es, H3 Dp = some (.lst acc) ∧ DqA (m.add Dp).A H3 acc es ∧ Rl (i + 1) es ∧ es.length ≤ i + 1,
      fun H3 ⟨a, b, c⟩ => ⟨n', by omega, by omega, a, b, c⟩, fun x H3 hy => ?_⟩
    obtain ⟨k3, gx⟩ := turn x H3 hy
    have s3 : Stp (m.add Dp) 0 H2 H3 := Stp.ext k3
    have E3 : Env (m.add Dp) (n' * (ct + ce) + (ct + ce)) (wipeG Γ vs) (wipe σ vs) H3 := E2.step s3
    obtain ⟨Γ', vs0, htg, hsub, P, ht, hT, hF⟩ := hs Dp i gs[i] es (List.getElem?_eq_getElem hi) hr
    refine htg _ _ H3 x E3 gx _ fun σ' E4 hw => ⟨by rw [hw vs hsub, wipe_wipe], ?_⟩
    refine ht σ' H3 E4.le _ fun b H4 s4 pb => ?_
    cases b with
    | true =>
      obtain ⟨G, hG, hn⟩ := hT pb
      show te σ' H4 _
      refine hG σ' H4 (E4.step s4) _ fun y H5 s5 ⟨e, oe, ge⟩ => ?_
      have s25 : Stp (m.add Dp) (ct + ce) H2 H5 := ((s3.trans s4).trans s5).le
      have E5 : Env (m.add Dp) (n' * (ct + ce)) (wipeG Γ vs) (wipe σ vs) H5 := E2.step s25
      have ha5 := ha.to (s25.to E2.sub)
      refine ⟨acc, s25.kp _ _ eD nM, by rw [ha.length]; omega, ?_, E5.put (.inr rfl) nM (E1.free0 hD) nb, acc ++ [y], es ++ [e], upd_same, ?_, hn e ge, by rw [List.length_append]; show es.length + 1 ≤ i + 1; omega⟩
      · refine ⟨fun a o h n => ?_, fun n ho hn => m.imono (H := H5) ?_ fun a o h hm => ?_⟩
        · rw [upd_ne (ne_of_none h hD)]
          exact s25.kp a o (s2.kp a o h n) n
        · rw [ev, ← Nat.add_assoc] at ho ⊢
          exact s25.inv _ ho (s2.inv n (m.okd ho (Nat.le_add_right _ _)) hn)
        · rw [upd_ne (fun z : a = Dp => nM (z ▸ hm))]
          exact h
      · have t : To (m.add Dp).A H5 (m.add Dp).A (upd H5 Dp (.lst (acc ++ [y]))) := fun a o h n => ⟨by rw [upd_ne (fun z => n (.inr z))]; exact h, n⟩
        exact (ha5.append (.cons oe .nil)).to t
    | false =>
      show Stp m _ H1 H4 ∧ _
      have s24 : Stp (m.add Dp) (ct + ce) H2 H4 := (s3.trans s4).le
      exact ⟨⟨fun a o h n => s24.kp a o (s2.kp a o h n) n, fun n ho hn => by
        rw [ev, ← Nat.add_assoc] at ho ⊢
        exact s24.inv _ ho (s2.inv n (m.okd ho (Nat.le_add_right _ _)) hn)⟩, E2.step s24, acc, es, s24.kp _ _ eD nM, ha.to (s24.to E2.sub), hF pb, by omega⟩
  · have hi' : i = gs.length := by omega
    subst hi'
    refine .inl ⟨w2, q _ _ (s1.trans s2) ⟨.list es, ?_, es, rfl, hr, hl⟩⟩
    exact .lst eD nA (ha.to fun a o h n => ⟨h, fun z => n (.inl z)⟩)
/-- of data, the test and the element known functions -/
theorem ev_lcD {vs : List Nat} {j : Nat} (c : PyData → Bool) (f : PyData → PyData) (hI : EvI m cw wi Γ (ds.map isD)) (hz : ds.length ≤ sizeLine) (hj : j ∈ vs)
    (hs : ∀ Dp d, d ∈ ds → EvT (m.add Dp) ct tt ((wipeG Γ vs).set j (some (Lh.D d))) (· = c d) ∧ (c d = true → Ev (m.add Dp) ce te ((wipeG Γ vs).set j (some (Lh.D d))) (Lh.D (f d)))) :
    Ev m (cw + ds.length * (ct + ce)) (tLc wi (gName j) tt te vs) Γ (Lh.D (.list ((ds.filter c).map f))) := by
  have hh : Ev m (cw + (ds.map isD).length * (ct + ce)) (tLc wi (gName j) tt te vs) Γ (Lh.D (.list ((ds.filter c).map f))) := ?_
  · rw [List.length_map] at hh
    exact hh
  refine (ev_lc hI (by rw [List.length_map]; exact hz) (fun i es => es = ((ds.take i).filter c).map f) rfl ?_).imp ?_
  · intro Dp i g es hg hr
    rw [List.getElem?_map] at hg
    cases e : ds[i]? with
    | none => rw [e] at hg; cases hg
    | some d =>
      rw [e] at hg
      cases hg
      obtain ⟨h1, h2⟩ := hs Dp d (List.mem_of_getElem? e)
      have et : ds.take (i + 1) = ds.take i ++ [d] := by rw [List.take_add_one, e]; rfl
      refine ⟨_, _, tg_name, fun i hi => by rw [List.mem_singleton.mp hi]; exact hj, _, h1, fun p => ⟨_, (h2 p.symm).toP (P := (· = f d)) rfl, fun e' q => ?_⟩, fun p => ?_⟩
      · show es ++ [e'] = _
        rw [q, hr, et, List.filter_append, List.map_append]
        congr 1
        rw [List.filter_cons_of_pos (by rw [← p])]
        rfl
      · show es = _
        rw [hr, et, List.filter_append, List.map_append]
        rw [List.filter_cons_of_neg (by rw [← p]; exact Bool.false_ne_true)]
        exact (List.append_nil _).symm
  · intro H v ⟨d, o, es, e1, e2, _⟩
    rw [List.length_map, List.take_length] at e2
    rw [← e2, ← e1]
    exact o

/-! ### statements -/
/-- of k one spends c and keeps r -/
def Md.Spend (m : Md) (k c r : Nat) : Prop := (∀ n, m.ok n) ∨ c + r ≤ k
theorem fr {c' : Nat} (h : ∀ n, m.ok n := by intro _; trivial) : m.Spend k c' 0 := .inl h
theorem sp {c' : Nat} (h : c' ≤ k) : m.Spend k c' (k - c') := .inr (by omega)
theorem Env.lend (E : Env m k Γ σ H) (hs : m.Spend k c r) : Env m c Γ σ H := by
  rcases hs with h | h
  · exact ⟨E.inv.imp fun n hn => ⟨h _, hn.2⟩, E.fr, E.sub, E.trk, E.ex, E.len, E.sl⟩
  · exact E.le
theorem Env.pay (E : Env m k Γ σ H) (s : Stp m c H H') (hs : m.Spend k c r) : Env m r Γ σ H' := by
  rcases hs with h | h
  · obtain ⟨n, ho, hi⟩ := E.inv
    exact E.stepTo s.kp ⟨n + c, h _, s.inv n (h _) hi⟩
  · exact E.step s
theorem go_set {i : Nat} (E : Env m k Γ σ H) (hs : m.Spend k c r) (h : Ev m c te Γ g) (q : ∀ σ' H', Env m r (Γ.set i (some g)) σ' H' → De.nx σ' H') : tAsg te (gName i) De σ H :=
  h σ H (E.lend hs) _ fun v H' s o => q _ H' ((E.pay s hs).set o)
theorem go_asg {vs : List Nat} {f : Im} {Γ' : Gam} (E : Env m k Γ σ H) (hs : m.Spend k c r) (h : Ev m c te Γ (.im f)) (hg : Tg m tg Γ f Γ' vs) (q : ∀ σ' H', Env m r Γ' σ' H' → De.nx σ' H') : tAsg te tg De σ H :=
  h σ H (E.lend hs) _ fun v H' s o => hg r σ H' v (E.pay s hs) o _ fun σ' E' _ => q σ' H' E'
theorem go_ret (E : Env m k Γ σ H) (hs : m.Spend k c r) (h : Ev m c te Γ g) (q : ∀ v H', Stp m c H H' → Env m r Γ σ H' → g.on m H' v → De.rt v H') : tRet te De σ H :=
  h σ H (E.lend hs) _ fun v H' s o => q v H' s (E.pay s hs) o
theorem go_expr (E : Env m k Γ σ H) (hs : m.Spend k c r) (h : Ev m c te Γ g) (q : ∀ H', Env m r Γ σ H' → De.nx σ H') : tDrop te De σ H :=
  h σ H (E.lend hs) _ fun v H' s o => q H' (E.pay s hs)
theorem go_if {P : Bool → Prop} (E : Env m k Γ σ H) (hs : m.Spend k c r) (h : EvT m c tt Γ P) (k1 : P true → ∀ H', Env m r Γ σ H' → tth De σ H') (k2 : P false → ∀ H', Env m r Γ σ H' → tel De σ H') : tIfS tt tth tel De σ H :=
  h σ H (E.lend hs) _ fun b H' s p => by
    cases b with
    | true =>
      show tth De σ H'
      exact k1 p H' (E.pay s hs)
    | false =>
      show tel De σ H'
      exact k2 p H' (E.pay s hs)
/-- two names at once -/
theorem go_par {i j : Nat} {g1 g2 : Ag} (E : Env m k Γ σ H) (hs : m.Spend k c r) (h : EvA m c t Γ [g1, g2]) (q : ∀ σ' H', Env m r ((Γ.set i (some g1)).set j (some g2)) σ' H' → De.nx σ' H') : tPar i j t De σ H :=
  h σ H (E.lend hs) _ fun vs H' s o => by
    cases o with
    | cons o1 o2 =>
      cases o2 with
      | cons o2 o3 =>
        cases o3
        exact ⟨_, _, rfl, q _ _ (((E.pay s hs).set o1).set o2)⟩
/-- a new list that will change -/
theorem go_box {i : Nat} (E : Env m k Γ σ H) (hs : m.Spend k c r) (h : EvA m c t Γ (ds.map Lh.D)) (hz : ds.length ≤ sizeLine) (q : ∀ p σ' H', NoBox p Γ → ¬ m.A p → ¬ m.M p → Env (m.add p) r (Γ.set i (some (.box p (bL ds)))) σ' H' → De.nx σ' H') : tAsg (tLst t) (gName i) De σ H :=
  h σ H (E.lend hs) _ fun xs H1 s o => ⟨by rw [o.length, List.length_map]; exact hz, fun p hp => by
    have E1 := E.pay s hs
    refine q p _ _ (E1.noBox hp) (E1.free hp) (E1.freeM hp) ((E1.made hp).set ⟨rfl, .inr rfl, E1.freeM hp, E1.free0 hp, _, upd_same, xs, rfl, o.data.to (to_addNew hp)⟩)⟩
theorem NoBox.set' {i : Nat} {o : Option Ag} (h : NoBox p Γ) (ho : ∀ q b, o = some (.box q b) → q ≠ p) : NoBox p (Γ.set i o) := fun j q b e => by
  by_cases z : i = j
  · subst z
    by_cases hl : i < Γ.length
    · rw [List.getElem?_set_self hl] at e
      exact ho q b (Option.some.inj e)
    · rw [List.getElem?_eq_none (by rw [List.length_set]; omega)] at e
      cases e
  · rw [List.getElem?_set_ne z] at e
    exact h j q b e
theorem slot_back {i : Nat} {v : V} (h1 : σ[i]? = some (some v)) : σ.set i (some v) = σ := by
  obtain ⟨hl, e⟩ := List.getElem?_eq_some_iff.mp h1
  rw [← e]
  exact List.set_getElem_self hl
/-- a box's content changes to o -/
theorem Env.rebox (E : Env m k Γ σ H) {i : Nat} {b b' : Bx} {o : HO} (h : Γ[i]? = some (some (.box p b))) (hb : NoBox p (Γ.set i none)) (ho : b'.on m.A H o) (tk : Tk (some o) := by first | exact Tk.lst | exact Tk.dK | exact Tk.dT | exact Tk.ins) : Env m k (Γ.set i (some (.box p b'))) σ (upd H p o) := by
  obtain ⟨v, h1, rfl, h3, h4, h5, o1, h6, h7⟩ := E.sl i _ h
  have t : To m.A H m.A (upd H p o) := fun a u e n => ⟨by rw [upd_ne (fun z : a = p => n (z ▸ h3))]; exact e, n⟩
  have E2 := ((E.forget i).put (o := o) h3 h4 h5 hb tk).set (i := i) (v := .ref p) (g := .box p b') ⟨rfl, h3, h4, h5, o, upd_same, b'.mono t ho⟩
  rw [List.set_set, slot_back h1] at E2
  exact E2
theorem go_append {i : Nat} {P : PyData → Prop} (E : Env m k Γ σ H) (hs : m.Spend k c r) (hi : Γ[i]? = some (some (.box p (bL ds)))) (h : Ev m c te Γ (U P)) (hz : ds.length < sizeLine) (hb : NoBox p (Γ.set i none))
    (q : ∀ d H', P d → Env m r (Γ.set i (some (.box p (bL (ds ++ [d]))))) σ H' → De.nx σ H') : tDrop (tBM K "list" rAppend (tVar i) (tCons te tNil)) De σ H := by
  obtain ⟨v, h1, rfl, h3, h4, h5, o, h6, xs, rfl, h7⟩ := E.sl i _ hi
  refine ⟨_, h1, .inl ⟨rfl, _, .inl (.inl h6)⟩, h σ H (E.lend hs) _ fun y H1 s ⟨d, od, pd⟩ => ?_⟩
  have E1 := E.pay s hs
  have e6 := s.kp _ _ h6 h4
  have a7 := h7.to (s.to E.sub)
  exact ⟨p, xs, y, rfl, rfl, e6, by rw [h7.length]; exact hz, q d _ pd (E1.rebox hi hb ⟨_, rfl, a7.append (.cons od .nil)⟩)⟩
/-- loops: Inv i Γ k, what holds ahead of turn i with k to spend -/
theorem go_for {gs : List Im} (E : Env m k Γ σ H) (hs : m.Spend k c r) (hI : EvI m c wi Γ gs) (Inv : Nat → Gam → Nat → Prop) (h0 : Inv 0 Γ r)
    (ht : ∀ H1 i g Γ' k' σ' H' v, gs[i]? = some g → Inv i Γ' k' → Env (m.lt H1) k' Γ' σ' H' → g.on (m.lt H1).A H' v → tg v σ' H' fun σ2 H2 => tbd { De with nx := fun σ H => ∃ Γ' k', Inv (i + 1) Γ' k' ∧ Env (m.lt H1) k' Γ' σ H, ct := fun σ H => ∃ Γ' k', Inv (i + 1) Γ' k' ∧ Env (m.lt H1) k' Γ' σ H, bk := De.nx } σ2 H2)
    (hd : ∀ Γ' k' σ' H', Inv gs.length Γ' k' → Env m k' Γ' σ' H' → De.nx σ' H') : tFor wi tg tbd De σ H := hI σ H (E.lend hs) _ fun J H1 s1 wk => by
  have E1 := E.pay s1 hs
  refine ⟨fun i n σ2 H2 => n + i = gs.length ∧ ∃ Γ' k', Inv i Γ' k' ∧ Env (m.lt H1) k' Γ' σ2 H2, ⟨gs.length, rfl, Γ, r, h0, E1.lt⟩, fun i n σ2 H2 ⟨en, Γ', k', hi', E2⟩ => ?_⟩
  have k2 : To m.A H1 m.A H2 := E2.held
  obtain ⟨w1, w2⟩ := wk m.A H2 k2 E2.trk
  by_cases hi : i < gs.length
  · obtain ⟨go, turn⟩ := w1 i gs[i] (List.getElem?_eq_getElem hi)
    refine .inr ⟨go, fun σ H => ∃ Γ' k', Inv (i + 1) Γ' k' ∧ Env (m.lt H1) k' Γ' σ H, fun σ' H' h => ⟨n - 1, by omega, by omega, h⟩, fun x H3 hy => ?_⟩
    obtain ⟨k3, gx⟩ := turn x H3 hy
    exact ht H1 i gs[i] Γ' k' σ2 H3 x (List.getElem?_eq_getElem hi) hi' (E2.step (Stp.ext k3)) gx
  · have e : i = gs.length := by omega
    subst e
    exact .inl ⟨w2, hd Γ' k' σ2 H2 hi' E2.uncar⟩
/-- the target a name -/
theorem go_for1 {gs : List Im} {j : Nat} (E : Env m k Γ σ H) (hs : m.Spend k c r) (hI : EvI m c wi Γ gs) (Inv : Nat → Gam → Nat → Prop) (h0 : Inv 0 Γ r)
    (ht : ∀ H1 i g Γ' k' σ' H', gs[i]? = some g → Inv i Γ' k' → Env (m.lt H1) k' (Γ'.set j (some (.im g))) σ' H' → tbd { De with nx := fun σ H => ∃ Γ' k', Inv (i + 1) Γ' k' ∧ Env (m.lt H1) k' Γ' σ H, ct := fun σ H => ∃ Γ' k', Inv (i + 1) Γ' k' ∧ Env (m.lt H1) k' Γ' σ H, bk := De.nx } σ' H')
    (hd : ∀ Γ' k' σ' H', Inv gs.length Γ' k' → Env m k' Γ' σ' H' → De.nx σ' H') : tFor wi (gName j) tbd De σ H :=
  go_for E hs hI Inv h0 (fun H1 i g Γ' k' σ' H' v hg hi E' o => ht H1 i g Γ' k' _ H' hg hi (E'.set (g := .im g) o)) hd
theorem go_while (E : Env m k Γ σ H) (Inv : Nat → Gam → Nat → Prop) {n0 : Nat} (h0 : Inv n0 Γ k)
    (ht : ∀ n Γ' k', Inv n Γ' k' → ∃ c r P, m.Spend k' c r ∧ EvT m c tt Γ' P ∧ (P true → ∀ σ' H', Env m r Γ' σ' H' → tbd { De with nx := fun σ H => ∃ n' Γ' k', n' < n ∧ Inv n' Γ' k' ∧ Env m k' Γ' σ H, ct := fun σ H => ∃ n' Γ' k', n' < n ∧ Inv n' Γ' k' ∧ Env m k' Γ' σ H, bk := De.nx } σ' H') ∧
      (P false → ∀ σ' H', Env m r Γ' σ' H' → De.nx σ' H')) : tWhile tt tbd De σ H := by
  refine ⟨fun n σ H => ∃ Γ' k', Inv n Γ' k' ∧ Env m k' Γ' σ H, ⟨n0, Γ, k, h0, E⟩, fun n σ' H' ⟨Γ', k', hi, E'⟩ => ?_⟩
  obtain ⟨c, r, P, hs, hc, hT, hF⟩ := ht n Γ' k' hi
  refine hc σ' H' (E'.lend hs) _ fun b H2 s p => ?_
  cases b with
  | true =>
    show ∃ N : L2.St → Hp → Prop, _
    exact ⟨fun σ H => ∃ n' Γ' k', n' < n ∧ Inv n' Γ' k' ∧ Env m k' Γ' σ H, fun σ' H' ⟨n', Γ', k', a, b, c⟩ => ⟨n', a, Γ', k', b, c⟩, hT p σ' H2 (E'.pay s hs)⟩
  | false =>
    show De.nx σ' H2
    exact hF p σ' H2 (E'.pay s hs)
/-- what a slot holds, opened -/
theorem Env.open_ {i : Nat} {P : PyData → Prop} (E : Env m k Γ σ H) (h : Γ[i]? = some (some (U P))) : ∃ d, P d ∧ Env m k (Γ.set i (some (Lh.D d))) σ H := by
  obtain ⟨v, h1, d, h2, h3⟩ := E.sl i _ h
  refine ⟨d, h3, ?_⟩
  have E2 := E.set (i := i) (v := v) (g := Lh.D d) h2
  rw [slot_back h1] at E2
  exact E2
theorem Env.openI {i : Nat} {P : Int → Prop} (E : Env m k Γ σ H) (h : Γ[i]? = some (some (.im (isI P)))) : ∃ z, P z ∧ Env m k (Γ.set i (some (Lh.D (.int z)))) σ H := by
  obtain ⟨v, h1, z, rfl, h3⟩ := E.sl i _ h
  refine ⟨z, h3, ?_⟩
  have E2 := E.set (i := i) (v := .int z) (g := Lh.D (.int z)) (.int z)
  rw [slot_back h1] at E2
  exact E2
end

/-! ### defs that change nothing -/
/-- from such data to such a datum -/
def spD (rel : List PyData → PyData → Prop) : Sp := fun vs H Q _ => ∃ A ds d, DqA A H vs ds ∧ (∀ a, A a → Tk (H a)) ∧ rel ds d ∧ ∀ v H', (∀ a o, H a = some o → H' a = some o) → Dq A H' v d → Q v H'
/-- the answer is a new list -/
def spL (rel : List PyData → List PyData → Prop) : Sp := fun vs H Q _ => ∃ A ds es, DqA A H vs ds ∧ (∀ a, A a → Tk (H a)) ∧ rel ds es ∧ ∀ p xs H', (∀ a o, H a = some o → H' a = some o) → H p = none → H' p = some (.lst xs) → DqA (fun a => A a ∨ a = p) H' xs es → Q (.ref p) H'
def m0 (A : Addr → Prop) (H : Hp) : Md := { H0 := H, M := fun _ => False, I := fun _ _ => True, ok := fun _ => True, A := A, X := [], itrk := fun _ h => h.elim, imono := fun _ _ => trivial, iup := fun _ _ => trivial, okd := fun _ _ => trivial }
def startG (n : Nat) (ds : List PyData) : Gam := ds.map (fun d => some (D d)) ++ List.replicate (n - ds.length) none
theorem env_start {A : Addr → Prop} {H : Hp} {N : List Str} {vs : List V} {ds : List PyData} (h : DqA A H vs ds) (ht : ∀ a, A a → Tk (H a)) : Env (m0 A H) 0 (startG N.length ds) (L2.start N vs) H := by
  refine ⟨⟨0, trivial, trivial⟩, fun _ _ h _ => h, fun _ h => h.elim, ht, fun _ h => absurd h (by show _ ∉ []; simp), ?_, fun i g e => ?_⟩
  · unfold L2.start startG
    rw [List.length_append, List.length_append, List.length_map, List.length_map, List.length_replicate, List.length_replicate, h.length]
  · unfold startG at e
    by_cases hi : i < ds.length
    · rw [List.getElem?_append_left (by rw [List.length_map]; exact hi), List.getElem?_map] at e
      cases ed : ds[i]? with
      | none => rw [ed] at e; cases e
      | some d =>
        rw [ed] at e
        cases e
        obtain ⟨v, ev, hv⟩ := h.get ed
        refine ⟨v, ?_, hv⟩
        unfold L2.start
        rw [List.getElem?_append_left (by rw [List.length_map, h.length]; exact hi), List.getElem?_map, ev]
        rfl
    · rw [List.getElem?_append_right (by rw [List.length_map]; omega), List.getElem?_replicate] at e
      split at e <;> cases e
section
variable {m : Md} {k r c : Nat} {Γ : Gam} {σ : L2.St} {H H' : Hp} {v : V} {t tk : TA} {De : Ends} {d : PyData} {ds es : List PyData} {Ex : XK}
theorem ev_call {rel : List PyData → PyData → Prop} (h : EvA m c t Γ (ds.map D)) (hr : rel ds d) : Ev m c (tCall (spD rel) [] Ex t) Γ (D d) := fun σ H E Q q =>
  h σ H E _ fun vs H1 s o => ⟨m.A, ds, d, by rw [List.append_nil]; exact o.data, (E.step (r := 0) s).trk, hr, fun v H2 k od => q v H2 (s.trans (Stp.ext k)) od⟩
theorem ev_callL {rel : List PyData → List PyData → Prop} (h : EvA m c t Γ (ds.map D)) (hr : rel ds es) : Ev m c (tCall (spL rel) [] Ex t) Γ (D (.list es)) := fun σ H E Q q =>
  h σ H E _ fun vs H1 s o => ⟨m.A, ds, es, by rw [List.append_nil]; exact o.data, (E.step (r := 0) s).trk, hr, fun p xs H2 k hn hp ha =>
    q (.ref p) H2 (s.trans (Stp.ext k)) (.lst hp ((E.step (r := 0) s).free hn) (ha.to fun a o h n => ⟨h, fun z => n (.inl z)⟩))⟩
/-- .. and will change -/
theorem go_callBox {i : Nat} {rel : List PyData → List PyData → Prop} (E : Env m k Γ σ H) (hs : m.Spend k c r) (h : EvA m c t Γ (ds.map D)) (hr : rel ds es)
    (cont : ∀ p σ' H', NoBox p Γ → ¬ m.A p → ¬ m.M p → Env (m.add p) r (Γ.set i (some (.box p (bL es)))) σ' H' → De.nx σ' H') : tAsg (tCall (spL rel) [] Ex t) (gName i) De σ H :=
  h σ H (E.lend hs) _ fun vs H1 s o => by
    have E1 := E.pay s hs
    refine ⟨m.A, ds, es, by rw [List.append_nil]; exact o.data, E1.trk, hr, fun p xs H2 kk hn hp ha => ?_⟩
    have hn' : ¬ m.A p := E1.free hn
    have hM : ¬ m.M p := E1.freeM hn
    have h0 : m.H0 p = none := E1.free0 hn
    have E2 : Env m r Γ σ H2 := E1.step (Stp.ext kk)
    -- the new address is kept off from here on
    have nb : NoBox p Γ := E1.noBox hn
    have tt : To m.A H1 (m.add p).A H2 := fun a o e n => ⟨kk a o e, fun z => z.elim n (ne_of_none e hn)⟩
    have E3 : Env (m.add p) r Γ σ H2 := by
      refine ⟨E2.inv, E2.fr, fun a ha => .inl (E2.sub a ha), fun a ha => ?_, fun x hx => x.2.mono tt (E1.ex x hx), E2.len, fun i g e => ?_⟩
      · rcases ha with ha | rfl
        · exact E2.trk a ha
        · rw [hp]; exact Tk.lst
      · obtain ⟨v, h1, h2⟩ := E1.sl i g e
        refine ⟨v, h1, ?_⟩
        cases g with
        | im f => exact f.mono tt h2
        | box q b =>
          obtain ⟨e1, h3, h4, h5, u, h6, h7⟩ := h2
          exact ⟨e1, .inl h3, h4, h5, u, kk q u h6, b.mono tt h7⟩
    exact cont p _ _ nb hn' hM (E3.set ⟨rfl, .inr rfl, hM, h0, _, hp, xs, rfl, ha⟩)
/-- what a def that changes nothing hands back -/
theorem ret_D {A : Addr → Prop} {H0 : Hp} {Q : VK} (hm : m.H0 = H0) (hM : ∀ a, ¬ m.M a) (hA : ∀ a, A a → m.A a) (q : ∀ v H', (∀ a o, H0 a = some o → H' a = some o) → Dq A H' v d → Q v H') (E : Env m k Γ σ H') (o : (D d).on m H' v) : Q v H' := by
  subst hm
  exact q v H' (fun a u e => E.fr a u e (hM a)) (Dq.to (fun a u e n => ⟨e, fun z => n (hA a z)⟩) o)
end
end Lh

set_option Elab.async false
set_option linter.all false
set_option maxRecDepth 100000
set_option maxHeartbeats 2000000
/-! Rules over data with a Lean type, and what they evaluate to. -/
namespace Lh
open PySem PySem.Spec PyProof.Rows L2 PySem.W

theorem plainAll_toD {α : Type} [DecidableEq α] [Datum α] : ∀ (xs : List α), PyData.plainAll (xs.map Datum.toD) = true
  | [] => rfl
  | x :: xs => by
    show (PyData.plain (Datum.toD x) && PyData.plainAll (xs.map Datum.toD)) = true
    rw [Datum.plain, plainAll_toD xs]
    rfl
section
variable {X : Cx} {pins : List (Addr × Obj)} {σ : L2.St} {H : Hp} {s : Shared}
theorem holds_of {α : Type} [DecidableEq α] [Datum α] (I : Inv X pins σ H s) {v : V} {u : Value} {x : α} (h : Dp X.K H v (Datum.toD x)) (r : RelV v u) : Holds s.heap u x := Dp.reads I _ v u h r

/-- == and != of two values of one type -/
def rEqX (K : Frag) : R2 := fun x y H Q => ∃ (α : Type) (_ : DecidableEq α) (_ : Datum α) (a b : α), Dp K H x (Datum.toD a) ∧ Dp K H y (Datum.toD b) ∧ Datum.depth α ≤ 32 ∧ Q (.bl (decide (a = b))) H
def rNeX (K : Frag) : R2 := fun x y H Q => ∃ (α : Type) (_ : DecidableEq α) (_ : Datum α) (a b : α), Dp K H x (Datum.toD a) ∧ Dp K H y (Datum.toD b) ∧ Datum.depth α ≤ 32 ∧ Q (.bl (decide (a ≠ b))) H
theorem op_eqX (hu : X.A.units + 64 < cLine) : OpR X (compareOp .Eq) (rEqX X.K) := by
  rintro pins s σ H x y v u Q I rx ry ⟨α, _, _, a, b, ha, hb, hd, q⟩
  exact eq_datum (holds_of I ha rx) (holds_of I hb ry) (by omega) ⟨.bl _, H, I, rfl, q⟩
theorem op_neX (hu : X.A.units + 64 < cLine) : OpR X (compareOp .NotEq) (rNeX X.K) := by
  rintro pins s σ H x y v u Q I rx ry ⟨α, _, _, a, b, ha, hb, hd, q⟩
  exact ne_datum (holds_of I ha rx) (holds_of I hb ry) (by omega) ⟨.bl _, H, I, rfl, q⟩
/-- among them -/
def mem {α : Type} [DecidableEq α] (x : α) (xs : List α) : Bool := decide (x ∈ xs)
theorem mem_iff {α : Type} [DecidableEq α] {x : α} {xs : List α} : mem x xs = true ↔ x ∈ xs := by
  unfold mem
  exact decide_eq_true_iff
theorem mem_no {α : Type} [DecidableEq α] {x : α} {xs : List α} : mem x xs = false ↔ x ∉ xs := by
  unfold mem
  exact decide_eq_false_iff_not
def rInX (K : Frag) (neg : Bool) : R2 := fun x y H Q => ∃ (α : Type) (_ : DecidableEq α) (_ : Datum α) (a : α) (as : List α), Dp K H x (Datum.toD a) ∧ (Dp K H y (Datum.toD as) ∨ Dp K H y (Datum.toD (Tup.mk as))) ∧ Datum.depth α ≤ 32 ∧
  Q (.bl (if neg then !mem a as else mem a as)) H
theorem op_inX (hu : X.A.units + 64 < cLine) : OpR X (compareOp .In) (rInX X.K false) := by
  rintro pins s σ H x y v u Q I rx ry ⟨α, _, _, a, as, ha, hb, hd, q⟩
  have k := holds_of I ha rx
  rcases hb with hb | hb
  · obtain ⟨l, vs, rfl, hl, hs⟩ := list_of_holds (holds_of I hb ry)
    exact in_list_datum hl hs k (by omega) ⟨.bl _, H, I, rfl, q⟩
  · obtain ⟨l, vs, rfl, hl, hs⟩ := tup_of_holds (holds_of I hb ry)
    exact in_tuple_datum hl hs k (by omega) ⟨.bl _, H, I, rfl, q⟩
theorem op_notInX (hu : X.A.units + 64 < cLine) : OpR X (compareOp .NotIn) (rInX X.K true) := by
  rintro pins s σ H x y v u Q I rx ry ⟨α, _, _, a, as, ha, hb, hd, q⟩
  have k := holds_of I ha rx
  rcases hb with hb | hb
  · obtain ⟨l, vs, rfl, hl, hs⟩ := list_of_holds (holds_of I hb ry)
    exact notIn_list_datum hl hs k (by omega) ⟨.bl _, H, I, by show _ = _; unfold mem; rw [← decide_not]; rfl, q⟩
  · obtain ⟨l, vs, rfl, hl, hs⟩ := tup_of_holds (holds_of I hb ry)
    exact notIn_tuple_datum hl hs k (by omega) ⟨.bl _, H, I, by show _ = _; unfold mem; rw [← decide_not]; rfl, q⟩
/-- < <= > >= of two values of one ordered type -/
def rLtX (K : Frag) (f : Bool → Bool → Bool) : R2 := fun x y H Q => ∃ (α : Type) (_ : DecidableEq α) (_ : DatumOrd α) (a b : α), Dp K H x (Datum.toD a) ∧ Dp K H y (Datum.toD b) ∧ Datum.depth α ≤ 32 ∧ Q (.bl (f (DatumOrd.lt a b) (DatumOrd.lt b a))) H
theorem op_ltX (hu : X.A.units + 64 < cLine) : OpR X (compareOp .Lt) (rLtX X.K fun p _ => p) := by
  rintro pins s σ H x y v u Q I rx ry ⟨α, _, _, a, b, ha, hb, hd, q⟩
  exact lt_datum (holds_of I ha rx) (holds_of I hb ry) (by omega) ⟨.bl _, H, I, rfl, q⟩
theorem op_gtX (hu : X.A.units + 64 < cLine) : OpR X (compareOp .Gt) (rLtX X.K fun _ p => p) := by
  rintro pins s σ H x y v u Q I rx ry ⟨α, _, _, a, b, ha, hb, hd, q⟩
  exact gt_datum (holds_of I ha rx) (holds_of I hb ry) (by omega) ⟨.bl _, H, I, rfl, q⟩
theorem op_leX (hu : X.A.units + 64 < cLine) : OpR X (compareOp .LtE) (rLtX X.K fun _ p => !p) := by
  rintro pins s σ H x y v u Q I rx ry ⟨α, _, _, a, b, ha, hb, hd, q⟩
  exact le_datum (holds_of I ha rx) (holds_of I hb ry) (by omega) ⟨.bl _, H, I, rfl, q⟩
theorem op_geX (hu : X.A.units + 64 < cLine) : OpR X (compareOp .GtE) (rLtX X.K fun p _ => !p) := by
  rintro pins s σ H x y v u Q I rx ry ⟨α, _, _, a, b, ha, hb, hd, q⟩
  exact ge_datum (holds_of I ha rx) (holds_of I hb ry) (by omega) ⟨.bl _, H, I, rfl, q⟩

/-! sorted of a list of such -/
theorem each_of {α : Type} {G : V → α → Prop} : ∀ {zs : List V} {us : List Value} {xs : List α}, Vals zs us → Paired G zs xs → EachIs (fun u x => ∃ v, RelV v u ∧ G v x) us xs
  | _, _, _, .nil, .nil => .nil
  | _, _, _, .cons r t, .cons g k => .cons ⟨_, r, g⟩ (each_of t k)
theorem of_each {α : Type} {G : V → α → Prop} : ∀ {us : List Value} {xs : List α}, EachIs (fun u x => ∃ v, RelV v u ∧ G v x) us xs → ∃ zs, Vals zs us ∧ Paired G zs xs
  | _, _, .nil => ⟨[], .nil, .nil⟩
  | _, _, .cons ⟨v, r, g⟩ t => by
    obtain ⟨zs, h1, h2⟩ := of_each t
    exact ⟨v :: zs, .cons r h1, .cons g h2⟩
/-- Python's order -/
def leX {α : Type} [DecidableEq α] [DatumOrd α] (a b : α) : Bool := !DatumOrd.lt b a
theorem leX_data {α : Type} [DecidableEq α] [DatumOrd α] (a b : α) : dataLe false (Datum.toD (α := α)) a b = leX a b := by
  show (!(listOrd itemOrd).blt (keyToks (Datum.toD b)) (keyToks (Datum.toD a))) = !DatumOrd.lt b a
  rw [← DatumOrd.lt_eq]
  rfl
def SortOk {α : Type} [DecidableEq α] [Datum α] (xs : List α) : Prop := (∀ x ∈ xs, ∃ d r, Datum.toD x = PyData.tuple (d :: r)) ∨ ∀ x ∈ xs, ∀ r, Datum.toD x ≠ PyData.tuple r
def rSortX (K : Frag) : List V → Hp → VK → Prop := fun vs H Q => ∃ (α : Type) (_ : DecidableEq α) (_ : DatumOrd α) (a : Addr) (zs : List V) (xs : List α) (G : V → α → Prop), vs = [V.ref a] ∧ SqL K H a zs ∧ Paired G zs xs ∧ (∀ v x, G v x → Dp K H v (Datum.toD x)) ∧
  Datum.depth α ≤ 32 ∧ SortOk xs ∧ ∀ p ys, Paired G ys (xs.mergeSort leX) → H p = none → Q (.ref p) (upd H p (.lst ys))
theorem paired_len {α β : Type} {G : α → β → Prop} : ∀ {xs : List α} {ys : List β}, Paired G xs ys → xs.length = ys.length
  | _, _, .nil => rfl
  | _, _, .cons _ t => congrArg (· + 1) (paired_len t)
theorem cr_sortX (hu : X.A.units + 64 < cLine) : CallR X (.builtin "sorted") (rSortX X.K) := by
  rintro pins s σ H vs us Q I r ⟨α, _, _, a, zs, xs, G, rfl, hs, hp, hG, hd, hk, q⟩
  obtain ⟨its, rv, hl, hz⟩ := I.list hs
  obtain ⟨u, rfl, ru⟩ := vals1 r
  obtain rfl : u = Value.ref a := ru
  have e := each_of rv hp
  have hlen : zs.length = xs.length := paired_len hp
  refine sorted_data (enc := Datum.toD (α := α)) (bs := xs) hl.isList e (e.mono fun u x ⟨v, r, g⟩ => Dp.reads I _ v u (hG v x g) r) (fun d h d' h' => ?_) ?_ (by omega) (fun b _ => ?_) fun out ho he => ?_
  · obtain ⟨x, _, rfl⟩ := List.mem_map.mp h
    obtain ⟨y, _, rfl⟩ := List.mem_map.mp h'
    exact DatumOrd.alike x y
  · rcases hk with hk | hk
    · left
      intro d h
      obtain ⟨x, hx, rfl⟩ := List.mem_map.mp h
      exact hk x hx
    · right
      intro d h
      obtain ⟨x, hx, rfl⟩ := List.mem_map.mp h
      exact ⟨DatumOrd.notNone x, hk x hx⟩
  · have := Datum.depth_le b
    omega
  · have es : xs.mergeSort (dataLe false (Datum.toD (α := α))) = xs.mergeSort leX := by
      congr 1
      funext a b
      exact leX_data a b
    rw [es] at he
    obtain ⟨ys, h1, h2⟩ := of_each he
    obtain ⟨n, hn⟩ := sortedAll_at s.heap its out.toArray
    have hlt : s.heap.objs.size ≤ s.heap.objs.size + 1 := Nat.le_succ _
    exact ⟨.ref (s.heap.objs.size + 1), upd H (s.heap.objs.size + 1) (.lst ys), I.laid (o := .lst ys) (t' := s.toks) (fun b o e => sortedAll_old e) hlt ⟨by rw [paired_len h2, List.length_mergeSort]; omega, out, n, h1, hn⟩, rfl, q _ ys h2 (I.hok.fresh hlt)⟩
end

/-! ### what they evaluate to -/
/-- data of few levels (an instance a type that a proof speaks of) -/
class Small (α : Type) [DecidableEq α] [Datum α] : Prop where
  le : Datum.depth α ≤ 32
instance : Small Int := ⟨by decide⟩
instance : Small Bool := ⟨by decide⟩
instance : Small Str := ⟨by decide⟩
instance : Small Unit := ⟨by decide⟩
instance : Small (List Int) := ⟨by decide⟩
instance : Small (List Str) := ⟨by decide⟩
instance : Small (Int × Int) := ⟨by decide⟩
instance : Small (List (Int × Int)) := ⟨by decide⟩
instance : Small (Tup (Int × Int)) := ⟨by decide⟩
instance : Small (List (Tup (Int × Int))) := ⟨by decide⟩
instance : Small (Tup Str) := ⟨by decide⟩
instance : Small (Tup Int) := ⟨by decide⟩
abbrev J {α : Type} [DecidableEq α] [Datum α] (x : α) : Ag := D (Datum.toD x)
/-- such a value of the type -/
abbrev JP {α : Type} [DecidableEq α] [Datum α] (P : α → Prop) : Ag := U fun d => ∃ x, d = Datum.toD x ∧ P x
section
variable {m : Md} {ce ca cb : Nat} {Γ : Gam} {te ta tb : TE} {K : Frag} {α : Type} [DecidableEq α]
theorem ev_eqX [Datum α] [Small α] {x y : α} (ha : Ev m ca ta Γ (J x)) (hb : Ev m cb tb Γ (J y)) : Ev m (ca + cb) (tOp (rEqX K) ta tb) Γ (D (.bool (decide (x = y)))) :=
  ev_op ha hb fun σ H E u v o1 o2 Q q => ⟨α, _, _, x, y, Dq.dp K (Datum.plain _) o1, Dq.dp K (Datum.plain _) o2, Small.le, q _ H Stp.refl (.bl _)⟩
theorem ev_neX [Datum α] [Small α] {x y : α} (ha : Ev m ca ta Γ (J x)) (hb : Ev m cb tb Γ (J y)) : Ev m (ca + cb) (tOp (rNeX K) ta tb) Γ (D (.bool (decide (x ≠ y)))) :=
  ev_op ha hb fun σ H E u v o1 o2 Q q => ⟨α, _, _, x, y, Dq.dp K (Datum.plain _) o1, Dq.dp K (Datum.plain _) o2, Small.le, q _ H Stp.refl (.bl _)⟩
theorem ev_inT [Datum α] [Small α] {x : α} {xs : List α} (ha : Ev m ca ta Γ (J x)) (hb : Ev m cb tb Γ (J (Tup.mk xs))) : Ev m (ca + cb) (tOp (rInX K false) ta tb) Γ (D (.bool (mem x xs))) :=
  ev_op ha hb fun σ H E u v o1 o2 Q q => ⟨α, _, _, x, xs, Dq.dp K (Datum.plain _) o1, .inr (Dq.dp K (Datum.plain _) o2), Small.le, q _ H Stp.refl (.bl _)⟩
theorem not_mem {x : α} {xs : List α} : decide (x ∉ xs) = !mem x xs := by
  unfold mem
  exact decide_not
theorem ev_notInT [Datum α] [Small α] {x : α} {xs : List α} (ha : Ev m ca ta Γ (J x)) (hb : Ev m cb tb Γ (J (Tup.mk xs))) : Ev m (ca + cb) (tOp (rInX K true) ta tb) Γ (D (.bool (!mem x xs))) :=
  ev_op ha hb fun σ H E u v o1 o2 Q q => ⟨α, _, _, x, xs, Dq.dp K (Datum.plain _) o1, .inr (Dq.dp K (Datum.plain _) o2), Small.le, q _ H Stp.refl (.bl _)⟩
theorem ev_inL [Datum α] [Small α] {x : α} {xs : List α} (ha : Ev m ca ta Γ (J x)) (hb : Ev m cb tb Γ (J xs)) : Ev m (ca + cb) (tOp (rInX K false) ta tb) Γ (D (.bool (mem x xs))) :=
  ev_op ha hb fun σ H E u v o1 o2 Q q => ⟨α, _, _, x, xs, Dq.dp K (Datum.plain _) o1, .inl (Dq.dp K (Datum.plain _) o2), Small.le, q _ H Stp.refl (.bl _)⟩
theorem ev_notInL [Datum α] [Small α] {x : α} {xs : List α} (ha : Ev m ca ta Γ (J x)) (hb : Ev m cb tb Γ (J xs)) : Ev m (ca + cb) (tOp (rInX K true) ta tb) Γ (D (.bool (!mem x xs))) :=
  ev_op ha hb fun σ H E u v o1 o2 Q q => ⟨α, _, _, x, xs, Dq.dp K (Datum.plain _) o1, .inl (Dq.dp K (Datum.plain _) o2), Small.le, q _ H Stp.refl (.bl _)⟩
/-- a box of a list of the type -/
abbrev Bxl [Datum α] (p : Addr) (xs : List α) : Ag := .box p (bL (xs.map Datum.toD))
theorem box_dp [Datum α] {p : Addr} {xs : List α} {H : Hp} {v : V} (o : (Bxl p xs).on m H v) : ∃ zs, v = .ref p ∧ H p = some (.lst zs) ∧ DqA m.A H zs (xs.map Datum.toD) := by
  obtain ⟨rfl, _, _, _, o, ho, zs, rfl, hx⟩ := o
  exact ⟨zs, rfl, ho, hx⟩
theorem ev_inB [Datum α] [Small α] {p : Addr} {x : α} {xs : List α} (ha : Ev m ca ta Γ (J x)) (hb : Ev m cb tb Γ (Bxl p xs)) : Ev m (ca + cb) (tOp (rInX K false) ta tb) Γ (D (.bool (mem x xs))) :=
  ev_op ha hb fun σ H E u v o1 o2 Q q => by
    obtain ⟨zs, rfl, h1, h2⟩ := box_dp o2
    exact ⟨α, _, _, x, xs, Dq.dp K (Datum.plain _) o1, .inl (.lst (.inl (.inl h1)) (DqA.dp K (plainAll_toD _) h2)), Small.le, q _ H Stp.refl (.bl _)⟩
theorem ev_notInB [Datum α] [Small α] {p : Addr} {x : α} {xs : List α} (ha : Ev m ca ta Γ (J x)) (hb : Ev m cb tb Γ (Bxl p xs)) : Ev m (ca + cb) (tOp (rInX K true) ta tb) Γ (D (.bool (!mem x xs))) :=
  ev_op ha hb fun σ H E u v o1 o2 Q q => by
    obtain ⟨zs, rfl, h1, h2⟩ := box_dp o2
    exact ⟨α, _, _, x, xs, Dq.dp K (Datum.plain _) o1, .inl (.lst (.inl (.inl h1)) (DqA.dp K (plainAll_toD _) h2)), Small.le, q _ H Stp.refl (.bl _)⟩
theorem ev_ltX [DatumOrd α] [Small α] {f : Bool → Bool → Bool} {x y : α} (ha : Ev m ca ta Γ (J x)) (hb : Ev m cb tb Γ (J y)) : Ev m (ca + cb) (tOp (rLtX K f) ta tb) Γ (D (.bool (f (DatumOrd.lt x y) (DatumOrd.lt y x)))) :=
  ev_op ha hb fun σ H E u v o1 o2 Q q => ⟨α, _, _, x, y, Dq.dp K (Datum.plain _) o1, Dq.dp K (Datum.plain _) o2, Small.le, q _ H Stp.refl (.bl _)⟩
theorem DqA.paired [Datum α] {A : Addr → Prop} {H : Hp} : ∀ {zs : List V} {xs : List α}, DqA A H zs (xs.map Datum.toD) → Paired (fun v x => Dq A H v (Datum.toD x)) zs xs
  | _, [], .nil => .nil
  | _, _ :: _, .cons h t => .cons h (DqA.paired t)
theorem DqA.unpaired [Datum α] {A : Addr → Prop} {H : Hp} : ∀ {zs : List V} {xs : List α}, Paired (fun v x => Dq A H v (Datum.toD x)) zs xs → DqA A H zs (xs.map Datum.toD)
  | _, [], .nil => .nil
  | _, _ :: _, .cons h t => .cons h (DqA.unpaired t)
theorem ev_sortX [DatumOrd α] [Small α] {xs : List α} (ha : Ev m ca ta Γ (J xs)) (hk : SortOk xs) : Ev m ca (tCB (rSortX K) (tCons ta tNil)) Γ (J (xs.mergeSort leX)) := fun σ H E Q q =>
  ha σ H E.le _ fun v H1 s o => by
    have o' : Dq m.A H1 v (.list (xs.map Datum.toD)) := o
    cases o' with
    | lst h1 h2 h3 =>
      exact ⟨α, _, _, _, _, xs, fun v x => Dq m.A H1 v (Datum.toD x), rfl, .inl (.inl h1), h3.paired, fun v x g => Dq.dp K (Datum.plain _) g, Small.le, hk, fun p ys hy hp =>
        q _ _ (s.trans (Stp.new hp)).le (Dq.newL ((E.step (r := 0) s).free hp) hp (DqA.unpaired hy))⟩
theorem ev_sortB [DatumOrd α] [Small α] {p : Addr} {xs : List α} (ha : Ev m ca ta Γ (Bxl p xs)) (hk : SortOk xs) : Ev m ca (tCB (rSortX K) (tCons ta tNil)) Γ (J (xs.mergeSort leX)) := fun σ H E Q q =>
  ha σ H E.le _ fun v H1 s o => by
    obtain ⟨zs, rfl, h1, h3⟩ := box_dp o
    exact ⟨α, _, _, _, _, xs, fun v x => Dq m.A H1 v (Datum.toD x), rfl, .inl (.inl h1), h3.paired, fun v x g => Dq.dp K (Datum.plain _) g, Small.le, hk, fun p ys hy hp =>
        q _ _ (s.trans (Stp.new hp)).le (Dq.newL ((E.step (r := 0) s).free hp) hp (DqA.unpaired hy))⟩
/-! len, list(..), tuple(..) -/
def rLen (K : Frag) : List V → Hp → VK → Prop := fun xs H Q => ∃ p ys, xs = [.ref p] ∧ (SqL K H p ys ∨ SqT K H p ys) ∧ Q (.int ys.length) H
end
end Lh

set_option Elab.async false
set_option linter.all false
set_option maxRecDepth 100000
set_option maxHeartbeats 2000000
namespace Lh
open PySem PySem.Spec PyProof.Rows L2 PySem.W

section
variable {m : Md} {ce ca cb ci cl : Nat} {Γ : Gam} {te ta tb ti : TE} {t : TA} {K : Frag} {α : Type} [DecidableEq α] {d : PyData} {ds : List PyData} {p : Addr}
theorem Dq.list {A : Addr → Prop} {H : Hp} {v : V} (h : Dq A H v (.list ds)) : ∃ a xs, v = .ref a ∧ H a = some (.lst xs) ∧ ¬ A a ∧ DqA A H xs ds := by
  cases h with
  | lst h1 h2 h3 => exact ⟨_, _, rfl, h1, h2, h3⟩
theorem Dq.tupleF {A : Addr → Prop} {H : Hp} {v : V} (h : Dq A H v (.tuple ds)) : ∃ a xs, v = .ref a ∧ RdF H a xs ∧ ¬ A a ∧ DqA A H xs ds := by
  cases h with
  | tup h1 h2 h3 => exact ⟨_, _, rfl, h1, h2, h3⟩
theorem Dq.tuple {A : Addr → Prop} {H : Hp} {v : V} (h : Dq A H v (.tuple ds)) : ∃ a xs, v = .ref a ∧ Rd H a (.tup xs) ∧ ¬ A a ∧ DqA A H xs ds := by
  obtain ⟨a, xs, e, r, z⟩ := Dq.tupleF h
  exact ⟨a, xs, e, r.rd, z⟩
theorem Dq.is_int {A : Addr → Prop} {H : Hp} {v : V} {i : Int} (h : Dq A H v (.int i)) : v = .int i := by cases h; rfl
theorem Dq.is_str {A : Addr → Prop} {H : Hp} {v : V} {x : Str} (h : Dq A H v (.str x)) : v = .str x := by cases h; rfl
theorem Dq.is_bl {A : Addr → Prop} {H : Hp} {v : V} {b : Bool} (h : Dq A H v (.bool b)) : v = .bl b := by cases h; rfl

abbrev rLenS (K : Frag) : List V → Hp → VK → Prop := fun xs H Q => ∃ p ys, xs = [.ref p] ∧ (SqL K H p ys ∨ SqT K H p ys) ∧ Q (.int ys.length) H
theorem ev_lenL (h : Ev m ce te Γ (D (.list ds))) : Ev m ce (tCB (rLenS K) (tCons te tNil)) Γ (D (.int (ds.length : Nat))) := fun σ H E Q q => h σ H E.le _ fun v H1 s o => by
  obtain ⟨a, xs, rfl, h1, h2, h3⟩ := Dq.list o
  exact ⟨a, xs, rfl, .inl (.inl (.inl h1)), q _ _ s (by rw [← h3.length]; exact .int _)⟩
theorem ev_lenT (h : Ev m ce te Γ (D (.tuple ds))) : Ev m ce (tCB (rLenS K) (tCons te tNil)) Γ (D (.int (ds.length : Nat))) := fun σ H E Q q => h σ H E.le _ fun v H1 s o => by
  obtain ⟨a, xs, rfl, h1, h2, h3⟩ := Dq.tuple o
  exact ⟨a, xs, rfl, .inr (.inl h1), q _ _ s (by rw [← h3.length]; exact .int _)⟩
theorem ev_lenB (h : Ev m ce te Γ (.box p (bL ds))) : Ev m ce (tCB (rLenS K) (tCons te tNil)) Γ (D (.int (ds.length : Nat))) := fun σ H E Q q => h σ H E.le _ fun v H1 s o => by
  obtain ⟨rfl, _, _, _, o, ho, zs, rfl, hx⟩ := o
  exact ⟨p, zs, rfl, .inl (.inl (.inl ho)), q _ _ s (by rw [← hx.length]; exact .int _)⟩
theorem ev_lenS {z : Str} (h : Ev m ce te Γ (D (.str z))) (hz : z.length ≤ sizeLine) : Ev m ce (tCB (fun xs H Q => ∃ z, xs = [.str z] ∧ z.length ≤ sizeLine ∧ Q (.int z.length) H) (tCons te tNil)) Γ (D (.int (z.length : Nat))) := fun σ H E Q q => h σ H E.le _ fun v H1 s o => by
  cases Dq.is_str o
  exact ⟨z, rfl, hz, q _ _ s (.int _)⟩
/-- the typed forms -/
theorem ev_lenJL [Datum α] {xs : List α} (h : Ev m ce te Γ (J xs)) : Ev m ce (tCB (rLenS K) (tCons te tNil)) Γ (J (xs.length : Int)) := (ev_lenL h).eq (by rw [List.length_map]; rfl)
theorem ev_lenJT [Datum α] {xs : List α} (h : Ev m ce te Γ (J (Tup.mk xs))) : Ev m ce (tCB (rLenS K) (tCons te tNil)) Γ (J (xs.length : Int)) := (ev_lenT h).eq (by rw [List.length_map]; rfl)
theorem ev_lenJB [Datum α] {xs : List α} (h : Ev m ce te Γ (Bxl p xs)) : Ev m ce (tCB (rLenS K) (tCons te tNil)) Γ (J (xs.length : Int)) := (ev_lenB h).eq (by rw [List.length_map]; rfl)

abbrev rListS (K : Frag) : List V → Hp → VK → Prop := fun xs H Q => ∃ p ys, xs = [.ref p] ∧ (SqL K H p ys ∨ SqT K H p ys) ∧ ∀ l, H l = none → Q (.ref l) (upd H l (.lst ys))
theorem ev_listL (h : Ev m ce te Γ (D (.list ds))) : Ev m ce (tCB (rListS K) (tCons te tNil)) Γ (D (.list ds)) := fun σ H E Q q => h σ H E.le _ fun v H1 s o => by
  obtain ⟨a, xs, rfl, h1, h2, h3⟩ := Dq.list o
  exact ⟨a, xs, rfl, .inl (.inl (.inl h1)), fun l hl => q _ _ (s.trans (Stp.new hl)).le (Dq.newL ((E.step (r := 0) s).free hl) hl h3)⟩
theorem ev_listT (h : Ev m ce te Γ (D (.tuple ds))) : Ev m ce (tCB (rListS K) (tCons te tNil)) Γ (D (.list ds)) := fun σ H E Q q => h σ H E.le _ fun v H1 s o => by
  obtain ⟨a, xs, rfl, h1, h2, h3⟩ := Dq.tuple o
  exact ⟨a, xs, rfl, .inr (.inl h1), fun l hl => q _ _ (s.trans (Stp.new hl)).le (Dq.newL ((E.step (r := 0) s).free hl) hl h3)⟩
abbrev rTupS (K : Frag) : List V → Hp → VK → Prop := fun xs H Q => ∃ p ys, xs = [.ref p] ∧ ((SqL K H p ys ∧ ∀ l, H l = none → Q (.ref l) (upd H l (.tup ys))) ∨ (SqT K H p ys ∧ Q (.ref p) H))
theorem ev_tupL (h : Ev m ce te Γ (D (.list ds))) : Ev m ce (tCB (rTupS K) (tCons te tNil)) Γ (D (.tuple ds)) := fun σ H E Q q => h σ H E.le _ fun v H1 s o => by
  obtain ⟨a, xs, rfl, h1, h2, h3⟩ := Dq.list o
  exact ⟨a, xs, rfl, .inl ⟨.inl (.inl h1), fun l hl => q _ _ (s.trans (Stp.new hl)).le (Dq.newT ((E.step (r := 0) s).free hl) hl h3)⟩⟩
theorem ev_tupT (h : Ev m ce te Γ (D (.tuple ds))) : Ev m ce (tCB (rTupS K) (tCons te tNil)) Γ (D (.tuple ds)) := fun σ H E Q q => h σ H E.le _ fun v H1 s o => by
  have o' : Dq m.A H1 v (.tuple ds) := o
  obtain ⟨a, xs, rfl, h1, h2, h3⟩ := Dq.tuple o
  exact ⟨a, xs, rfl, .inr ⟨.inl h1, q _ _ s o'⟩⟩
theorem ev_listJT [Datum α] {xs : List α} (h : Ev m ce te Γ (J (Tup.mk xs))) : Ev m ce (tCB (rListS K) (tCons te tNil)) Γ (J xs) := ev_listT h
theorem ev_listJL [Datum α] {xs : List α} (h : Ev m ce te Γ (J xs)) : Ev m ce (tCB (rListS K) (tCons te tNil)) Γ (J xs) := ev_listL h
theorem ev_tupJL [Datum α] {xs : List α} (h : Ev m ce te Γ (J xs)) : Ev m ce (tCB (rTupS K) (tCons te tNil)) Γ (J (Tup.mk xs)) := ev_tupL h
theorem ev_tupJT [Datum α] {xs : List α} (h : Ev m ce te Γ (J (Tup.mk xs))) : Ev m ce (tCB (rTupS K) (tCons te tNil)) Γ (J (Tup.mk xs)) := ev_tupT h

/-! subscripts -/
theorem ev_ixL {i : Int} {e : PyData} (h : Ev m ce te Γ (D (.list ds))) (hi : Ev m ci ti Γ (D (.int i))) (ha : atI ds i = some e) : Ev m (ce + ci) (tOp (rIxL K) te ti) Γ (D e) :=
  ev_op h hi fun σ H E x y o1 o2 Q q => by
    obtain ⟨a, xs, rfl, h1, h2, h3⟩ := Dq.list o1
    cases Dq.is_int o2
    unfold atI at ha
    cases ej : ixN ds.length i with
    | none => rw [ej] at ha; cases ha
    | some j =>
      rw [ej] at ha
      obtain ⟨v, ev, hv⟩ := h3.get (show ds[j]? = some e from ha)
      exact ⟨a, xs, i, v, rfl, rfl, .inl (.inl h1), by unfold atI; rw [h3.length, ej]; exact ev, q v H Stp.refl hv⟩
theorem ev_ixT {i : Int} {e : PyData} (h : Ev m ce te Γ (D (.tuple ds))) (hi : Ev m ci ti Γ (D (.int i))) (ha : atI ds i = some e) : Ev m (ce + ci) (tOp (rIxT K) te ti) Γ (D e) :=
  ev_op h hi fun σ H E x y o1 o2 Q q => by
    obtain ⟨a, xs, rfl, h1, h2, h3⟩ := Dq.tuple o1
    cases Dq.is_int o2
    unfold atI at ha
    cases ej : ixN ds.length i with
    | none => rw [ej] at ha; cases ha
    | some j =>
      rw [ej] at ha
      obtain ⟨v, ev, hv⟩ := h3.get (show ds[j]? = some e from ha)
      exact ⟨a, xs, i, v, rfl, rfl, .inl h1, by unfold atI; rw [h3.length, ej]; exact ev, q v H Stp.refl hv⟩
theorem atI_map {β γ : Type} (f : β → γ) (xs : List β) (i : Int) : atI (xs.map f) i = (atI xs i).map f := by
  unfold atI
  rw [List.length_map]
  cases ixN xs.length i with
  | none => rfl
  | some j =>
    show (xs.map f)[j]? = (xs[j]?).map f
    rw [List.getElem?_map]
theorem ev_ixJL [Datum α] {xs : List α} {i : Int} {x : α} (h : Ev m ce te Γ (J xs)) (hi : Ev m ci ti Γ (J i)) (ha : atI xs i = some x) : Ev m (ce + ci) (tOp (rIxL K) te ti) Γ (J x) := ev_ixL h hi (by rw [atI_map, ha]; rfl)
theorem ev_ixJT [Datum α] {xs : List α} {i : Int} {x : α} (h : Ev m ce te Γ (J (Tup.mk xs))) (hi : Ev m ci ti Γ (J i)) (ha : atI xs i = some x) : Ev m (ce + ci) (tOp (rIxT K) te ti) Γ (J x) := ev_ixT h hi (by rw [atI_map, ha]; rfl)
/-- an item of a list or a tuple at a place that is only known to lie in it -/
theorem atI_in {β : Type} {xs : List β} {i : Int} (h0 : 0 ≤ i) (h1 : i < xs.length) : ∃ x, x ∈ xs ∧ atI xs i = some x := by
  obtain ⟨n, rfl⟩ := Int.eq_ofNat_of_zero_le h0
  have hn : n < xs.length := by omega
  exact ⟨xs[n], List.getElem_mem hn, atI_nat (List.getElem?_eq_getElem hn)⟩
/-- a display with stars -/
theorem eva_star {gs : List Ag} (h : Ev m ce te Γ (D (.tuple ds))) (hr : EvA m cl t Γ gs) : EvA m (ce + cl) (StX.tStar K te t) Γ (ds.map D ++ gs) := fun σ H E Q q => h σ H E.le _ fun v H1 s o => by
  obtain ⟨a, xs, rfl, h1, h2, h3⟩ := Dq.tuple o
  refine ⟨a, xs, rfl, .inl (.inl h1), hr σ H1 (E.step s) _ fun ys H2 s2 o2 => q _ _ (s.trans s2).le ?_⟩
  have h4 := h3.to (s2.to E.sub)
  have : ∀ {xs : List V} {ds : List PyData}, DqA m.A H2 xs ds → OnAll m H2 (xs ++ ys) (ds.map D ++ gs) := by
    intro xs
    induction xs with
    | nil =>
      intro ds h
      cases h
      exact o2
    | cons x xs ih =>
      intro ds h
      cases h with
      | cons a b => exact .cons a (ih b)
  exact this h4
/-- + of two lists -/
theorem ev_catL {es : List PyData} (h : Ev m ca ta Γ (D (.list ds))) (h' : Ev m cb tb Γ (D (.list es))) (hz : ds.length + es.length ≤ sizeLine) : Ev m (ca + cb) (tOp rCat ta tb) Γ (D (.list (ds ++ es))) :=
  ev_op h h' fun σ H E x y o1 o2 Q q => by
    obtain ⟨a, xs, rfl, h1, h2, h3⟩ := Dq.list o1
    obtain ⟨b, ys, rfl, k1, k2, k3⟩ := Dq.list o2
    exact ⟨a, b, xs, ys, rfl, rfl, h1, k1, by rw [h3.length, k3.length]; exact hz, fun p hp => q _ _ (Stp.new hp) (Dq.newL (E.free hp) hp (h3.append k3))⟩
theorem ev_catJ [Datum α] {xs ys : List α} (h : Ev m ca ta Γ (J xs)) (h' : Ev m cb tb Γ (J ys)) (hz : xs.length + ys.length ≤ sizeLine) : Ev m (ca + cb) (tOp rCat ta tb) Γ (J (xs ++ ys)) := (ev_catL h h' (by rw [List.length_map, List.length_map]; exact hz)).eq (by rw [← List.map_append]; rfl)
end
end Lh

set_option Elab.async false
set_option linter.all false
set_option maxRecDepth 100000
set_option maxHeartbeats 2000000
/-! The rules that speak of the written part, with it named (so that they may stand within a comprehension). -/
namespace Lh
open PySem PySem.Spec PyProof.Rows L2 PySem.W
section
variable {X : Cx} {K : Frag} {α β : Type} [DecidableEq α] [DecidableEq β]
theorem k_eq (K : Frag) (hu : X.A.units + 64 < cLine) (hK : X.K = K := by rfl) : OpR X (compareOp .Eq) (rEqX K) := hK ▸ op_eqX hu
theorem k_ne (K : Frag) (hu : X.A.units + 64 < cLine) (hK : X.K = K := by rfl) : OpR X (compareOp .NotEq) (rNeX K) := hK ▸ op_neX hu
theorem k_in (K : Frag) (hu : X.A.units + 64 < cLine) (hK : X.K = K := by rfl) : OpR X (compareOp .In) (rInX K false) := hK ▸ op_inX hu
theorem k_notIn (K : Frag) (hu : X.A.units + 64 < cLine) (hK : X.K = K := by rfl) : OpR X (compareOp .NotIn) (rInX K true) := hK ▸ op_notInX hu
theorem k_lt (K : Frag) (hu : X.A.units + 64 < cLine) (hK : X.K = K := by rfl) : OpR X (compareOp .Lt) (rLtX K fun p _ => p) := hK ▸ op_ltX hu
theorem k_gt (K : Frag) (hu : X.A.units + 64 < cLine) (hK : X.K = K := by rfl) : OpR X (compareOp .Gt) (rLtX K fun _ p => p) := hK ▸ op_gtX hu
theorem k_le (K : Frag) (hu : X.A.units + 64 < cLine) (hK : X.K = K := by rfl) : OpR X (compareOp .LtE) (rLtX K fun _ p => !p) := hK ▸ op_leX hu
theorem k_ge (K : Frag) (hu : X.A.units + 64 < cLine) (hK : X.K = K := by rfl) : OpR X (compareOp .GtE) (rLtX K fun p _ => !p) := hK ▸ op_geX hu
theorem k_sorted (K : Frag) (hu : X.A.units + 64 < cLine) (hK : X.K = K := by rfl) : CallR X (.builtin "sorted") (rSortX K) := hK ▸ cr_sortX hu
theorem k_len (K : Frag) (hK : X.K = K := by rfl) : CallR X (.builtin "len") (rLenS K) := hK ▸ call_len_seq
theorem k_list (K : Frag) (hK : X.K = K := by rfl) : CallR X (.type "list") (rListS K) := hK ▸ call_list_of
theorem k_tuple (K : Frag) (hK : X.K = K := by rfl) : CallR X (.type "tuple") (rTupS K) := hK ▸ call_tuple_of
theorem k_ixL (K : Frag) (hK : X.K = K := by rfl) : IxR X (rIxL K) := hK ▸ ix_list
theorem k_ixT (K : Frag) (hK : X.K = K := by rfl) : IxR X (rIxT K) := hK ▸ ix_tup
theorem k_ix (K : Frag) (hK : X.K = K := by rfl) : IxR X (rIx K) := hK ▸ ix_seq
theorem k_slL (K : Frag) (hK : X.K = K := by rfl) : SlR X (rSlL K) := hK ▸ sl_list
theorem k_slT (K : Frag) (hK : X.K = K := by rfl) : SlR X (rSlT K) := hK ▸ sl_tup
theorem k_forL (K : Frag) {e tg : Expr} {te : TE} (h : PE X e te) (hK : X.K = K := by rfl) : PI X tg e (iList K te) := hK ▸ pi_list h
theorem k_forT (K : Frag) {e tg : Expr} {te : TE} (h : PE X e te) (hK : X.K = K := by rfl) : PI X tg e (iTup K te) := hK ▸ pi_tup h
theorem k_tg (K : Frag) {es : List Expr} {k n : Nat} {t : TGs} {pos : Pos} (hc : X.calm = true) (h : PGs X es t) (hn : (assignEach es X.env).length = n := by rfl) (hst : (assignEach es X.env).findIdx? (·.1) = none := by rfl) (hK : X.K = K := by rfl) :
    PG X (.Tuple es k pos) (gTup K n t) := hK ▸ pg_tup hc h hn hst
theorem k_star (K : Frag) {e : Expr} {es : List Expr} {p : Pos} {te : TE} {t : TA} (he : PE X e te) (hr : PA X es t) (hs : starEach (.Starred e p :: es) X.env = (true, eval e X.env) :: starEach es X.env := by rfl) (hK : X.K = K := by rfl) :
    PA X (.Starred e p :: es) (StX.tStar K te t) := hK ▸ StX.pa_star he hr hs
theorem k_bm0 (K : Frag) {T id : String} {name : Str} {r : V → List V → Hp → VK → Prop} {o : Expr} {to : TE} {apos cpos : Pos} (pa : PlainAttrs T) (slot : Slot T name id) (hty : typeOf (.builtin id) = pure (.type "method_descriptor")) (hm : MtR X id r) (ho : PE X o to)
    (hb : attributeBase o name X.env (eval o X.env) = eval o X.env := by rfl) (hl : (apos.endLine == cpos.line) = true := by rfl) (hK : X.K = K := by rfl) : PE X (.Call (.Attribute o name apos) [] [] cpos) (tBM0 K T r to) := hK ▸ pe_bm0 pa slot hty hm ho hb hl
theorem k_bm (K : Frag) {T id : String} {name : Str} {r : V → List V → Hp → VK → Prop} {o e : Expr} {es : List Expr} {to : TE} {t : TA} {apos cpos : Pos} (pa : PlainAttrs T) (slot : Slot T name id) (hty : typeOf (.builtin id) = pure (.type "method_descriptor")) (hm : MtR X id r) (ho : PE X o to) (ha : PA X (e :: es) t)
    (h1 : attributeBase o name X.env (eval o X.env) = eval o X.env := by rfl)
    (h2 : ((backTo cpos (starEach (e :: es) X.env)).all (fun x => !x.1) && (backToKw cpos (keywordEach [] X.env)).all (fun x => x.1.isSome) && decide ((e :: es).length + ([] : List Keyword).length + (if ([] : List Keyword).isEmpty then 0 else 1) < 30)) = true := by rfl)
    (h3 : (apos.endLine == cpos.line) = true := by rfl) (h4 : starEach (e :: es) X.env = (false, eval e X.env) :: starEach es X.env := by rfl) (h5 : (backTo cpos (starEach es X.env)).any (·.1) = false := by rfl) (hK : X.K = K := by rfl) :
    PE X (.Call (.Attribute o name apos) (e :: es) [] cpos) (tBM K T r to t) := hK ▸ pe_bm pa slot hty hm ho ha h1 h2 h3 h4 h5
end
section
variable {m : Md} {cw ct ce : Nat} {Γ : Gam} {te ta tb ti : TE} {tt : TT} {wi : TI} {K : Frag} {α β : Type} [DecidableEq α] [DecidableEq β]
theorem ev_lcJ [Datum α] [Datum β] {vs : List Nat} {j : Nat} {xs : List α} (c : α → Bool) (f : α → β) (hI : EvI m cw wi Γ ((xs.map Datum.toD).map isD)) (hz : xs.length ≤ sizeLine) (hj : j ∈ vs)
    (hs : ∀ Dp x, x ∈ xs → EvT (m.add Dp) ct tt ((wipeG Γ vs).set j (some (J x))) (· = c x) ∧ (c x = true → Ev (m.add Dp) ce te ((wipeG Γ vs).set j (some (J x))) (J (f x)))) :
    Ev m (cw + xs.length * (ct + ce)) (tLc wi (gName j) tt te vs) Γ (J ((xs.filter c).map f)) := by
  have hh : Ev m (cw + ((xs.map Datum.toD).map isD).length * (ct + ce)) (tLc wi (gName j) tt te vs) Γ (J ((xs.filter c).map f)) := ?_
  · rw [List.length_map, List.length_map] at hh
    exact hh
  refine (ev_lc hI (by rw [List.length_map, List.length_map]; exact hz) (fun i es => es = (((xs.take i).filter c).map f).map Datum.toD) rfl ?_).imp ?_
  · intro Dp i g es hg hr
    rw [List.getElem?_map, List.getElem?_map] at hg
    cases e : xs[i]? with
    | none => rw [e] at hg; cases hg
    | some d =>
      rw [e] at hg
      cases hg
      obtain ⟨h1, h2⟩ := hs Dp d (List.mem_of_getElem? e)
      have et : xs.take (i + 1) = xs.take i ++ [d] := by rw [List.take_add_one, e]; rfl
      refine ⟨_, _, tg_name, fun i hi => by rw [List.mem_singleton.mp hi]; exact hj, _, h1, fun p => ⟨_, (h2 p.symm).toP (P := (· = Datum.toD (f d))) rfl, fun e' q => ?_⟩, fun p => ?_⟩
      · show es ++ [e'] = _
        rw [q, hr, et, List.filter_append, List.map_append, List.map_append]
        congr 1
        rw [List.filter_cons_of_pos (by rw [← p])]
        rfl
      · show es = _
        rw [hr, et, List.filter_append, List.map_append, List.map_append]
        rw [List.filter_cons_of_neg (by rw [← p]; exact Bool.false_ne_true)]
        exact (List.append_nil _).symm
  · intro H v ⟨d, o, es, e1, e2, _⟩
    rw [List.length_map, List.length_map, List.take_length] at e2
    subst e2
    subst e1
    exact o
end
end Lh
namespace Lh
open PySem PySem.Spec PyProof.Rows L2 PySem.W
section
variable {m : Md} {k r c ce ca cb ci cl : Nat} {Γ : Gam} {σ : L2.St} {H : Hp} {te ta tb ti : TE} {t : TA} {K : Frag} {α β : Type} [DecidableEq α] [DecidableEq β] {d : PyData} {ds : List PyData} {p : Addr} {Q : VK}
/-- arguments that are data -/
def EvDs (m : Md) (c : Nat) (t : TA) (Γ : Gam) (ds : List PyData) : Prop := EvA m c t Γ (ds.map D)
theorem evd_nil : EvDs m 0 tNil Γ [] := eva_nil
theorem evd_cons (h : Ev m ce te Γ (D d)) (k : EvDs m cl t Γ ds) : EvDs m (ce + cl) (tCons te t) Γ (d :: ds) := eva_cons h k
theorem evd_star {es : List PyData} (h : Ev m ce te Γ (D (.tuple ds))) (hr : EvDs m cl t Γ es) : EvDs m (ce + cl) (StX.tStar K te t) Γ (ds ++ es) := by
  have := eva_star (K := K) h hr
  rw [← List.map_append] at this
  exact this
theorem ev_tup' (h : EvDs m cl t Γ ds) (hl : ds.length ≤ sizeLine) : Ev m cl (tTup t) Γ (D (.tuple ds)) := ev_tup h hl
theorem ev_lst' (h : EvDs m cl t Γ ds) (hl : ds.length ≤ sizeLine) : Ev m cl (tLst t) Γ (D (.list ds)) := ev_lst h hl
theorem ev_call' {rel : List PyData → PyData → Prop} {Ex : XK} (h : EvDs m cl t Γ ds) (hr : rel ds d) : Ev m cl (tCall (spD rel) [] Ex t) Γ (D d) := ev_call h hr
theorem ev_callL' {rel : List PyData → List PyData → Prop} {Ex : XK} {es : List PyData} (h : EvDs m cl t Γ ds) (hr : rel ds es) : Ev m cl (tCall (spL rel) [] Ex t) Γ (D (.list es)) := ev_callL h hr
/-- the last of a box taken -/
theorem go_pop {i : Nat} (E : Env m k Γ σ H) (hi : Γ[i]? = some (some (.box p (bL (ds ++ [d]))))) (hb : NoBox p (Γ.set i none))
    (cont : ∀ v H', Env m k (Γ.set i (some (.box p (bL ds)))) σ H' → Dq m.A H' v d → Q v H') : tBM0 K "list" rPop (tVar i) σ H Q := by
  obtain ⟨v, h1, rfl, h3, h4, h5, o, h6, xs, rfl, h7⟩ := E.sl i _ hi
  have hl := h7.length
  rw [List.length_append] at hl
  have hne : xs.length - 1 = ds.length := by
    have : ([d] : List PyData).length = 1 := rfl
    omega
  obtain ⟨y, ey, hy⟩ := h7.get (i := ds.length) (d := d) (by rw [List.getElem?_append_right (Nat.le_refl _), Nat.sub_self]; rfl)
  have hd : DqA m.A H xs.dropLast ds := by
    have := h7.take ds.length
    rw [List.take_left] at this
    rw [List.dropLast_eq_take, hne]
    exact this
  have E2 := E.rebox (b' := bL ds) (o := .lst xs.dropLast) hi hb ⟨_, rfl, hd⟩
  refine ⟨_, h1, .inl ⟨rfl, _, .inl (.inl h6)⟩, p, xs, y, rfl, rfl, h6, by rw [hne]; exact ey, cont y _ E2 (hy.to fun a o e n => ⟨by rw [upd_ne (fun z : a = p => n (z ▸ h3))]; exact e, n⟩)⟩
theorem go_appendD {i : Nat} {De : Ends} (E : Env m k Γ σ H) (hs : m.Spend k c r) (hi : Γ[i]? = some (some (.box p (bL ds)))) (h : Ev m c te Γ (D d)) (hz : ds.length < sizeLine) (hb : NoBox p (Γ.set i none))
    (cont : ∀ H', Env m r (Γ.set i (some (.box p (bL (ds ++ [d]))))) σ H' → De.nx σ H') : tDrop (tBM K "list" rAppend (tVar i) (tCons te tNil)) De σ H :=
  go_append E hs hi (h.toP (P := (· = d)) rfl) hz hb fun d' H' e E' => by
    subst e
    exact cont H' E'
/-- no box among these slots -/
theorem NoBox.nil : NoBox p [] := fun i q b e => by cases e
theorem NoBox.cons {o : Option Ag} (ho : ∀ q b, o = some (.box q b) → q ≠ p) (h : NoBox p Γ) : NoBox p (o :: Γ) := fun i q b e => by
  cases i with
  | zero => exact ho q b (Option.some.inj e)
  | succ i => exact h i q b e
theorem NoBox.none (h : NoBox p Γ) : NoBox p (none :: Γ) := .cons (fun _ _ e => nomatch e) h
theorem NoBox.im {f : Im} (h : NoBox p Γ) : NoBox p (some (.im f) :: Γ) := .cons (fun _ _ e => nomatch e) h
theorem NoBox.box {q : Addr} {b : Bx} (hq : q ≠ p) (h : NoBox p Γ) : NoBox p (some (.box q b) :: Γ) := .cons (fun _ _ e => by cases e; exact hq) h
end
end Lh
namespace Lh
open L2
theorem seq {t u : TS} {De : Ends} {σ : L2.St} {H : Hp} (h : t { De with nx := u De } σ H) : tSeq t u De σ H := h
theorem nxs {t u : TS} {De : Ends} {a b c} {σ : L2.St} {H : Hp} (h : t { De with nx := u De } σ H) : Ends.nx ⟨tSeq t u De, a, b, c⟩ σ H := h
theorem nx1 {t : TS} {De : Ends} {a b c} {σ : L2.St} {H : Hp} (h : t De σ H) : Ends.nx ⟨t De, a, b, c⟩ σ H := h
theorem nx0 {f : L2.St → Hp → Prop} {a b c} {σ : L2.St} {H : Hp} (h : f σ H) : Ends.nx ⟨f, a, b, c⟩ σ H := h
end Lh
namespace Lh
open PySem PySem.Spec PyProof.Rows L2 PySem.W
section
variable {m : Md} {k r c ce ca cb ci cl : Nat} {Γ : Gam} {σ : L2.St} {H : Hp} {te : TE} {K : Frag} {α : Type} [DecidableEq α] {p : Addr} {Q : VK} {De : Ends}
theorem go_popX [Datum α] {xs : List α} {x : α} {i : Nat} (E : Env m k Γ σ H) (hi : Γ[i]? = some (some (Bxl p (xs ++ [x])))) (hb : NoBox p (Γ.set i none))
    (cont : ∀ v H', Env m k (Γ.set i (some (Bxl p xs))) σ H' → Dq m.A H' v (Datum.toD x) → Q v H') : tBM0 K "list" rPop (tVar i) σ H Q :=
  go_pop (ds := xs.map Datum.toD) (d := Datum.toD x) E (by rw [hi]; show some (some (Ag.box _ (bL _))) = _; rw [List.map_append]; rfl) hb cont
theorem go_appendX [Datum α] {xs : List α} {x : α} {i : Nat} (E : Env m k Γ σ H) (hs : m.Spend k c r) (hi : Γ[i]? = some (some (Bxl p xs))) (h : Ev m c te Γ (J x)) (hz : xs.length < sizeLine) (hb : NoBox p (Γ.set i none))
    (cont : ∀ H', Env m r (Γ.set i (some (Bxl p (xs ++ [x])))) σ H' → De.nx σ H') : tDrop (tBM K "list" rAppend (tVar i) (tCons te tNil)) De σ H :=
  go_appendD (ds := xs.map Datum.toD) E hs hi h (by rw [List.length_map]; exact hz) hb fun H' E' => cont H' (by
    rw [show (Bxl p (xs ++ [x]) : Ag) = .box p (bL (xs.map Datum.toD ++ [Datum.toD x])) by show Ag.box _ _ = _; rw [List.map_append]; rfl]
    exact E')
theorem lt_line {n : Nat} (h : n ≤ 100000) : n < sizeLine := Nat.lt_of_le_of_lt h (by decide)
theorem le_line {n : Nat} (h : n ≤ 100000) : n ≤ sizeLine := Nat.le_of_lt (lt_line h)
end
end Lh

set_option Elab.async false
set_option linter.all false
set_option maxRecDepth 100000
set_option maxHeartbeats 4000000
/-! Rules that the layer lacks: set(xs) of a list of ints, dict(xs) of pairs with tuple keys. -/
namespace Lh
open PySem PySem.Spec PyProof.Rows L2 PySem.W
section
variable {P : Program} {w : World} {A : Around} {E : Value → Shared → Prop} {s : Shared}
set_option maxRecDepth 100000 in
set_option maxHeartbeats 3200000 in
theorem set_of_list {l : Addr} {items : Array Value} (ns : List Int) {Q : Value → Shared → Prop} (hh : A.handled = none) (hl : s.heap.IsList l items) (hit : IntsAre items.toList ns) (hb : ns.length + 1 < scanBound)
    (h : ∀ (h' : Heap) (tk c : Nat), SetR w h' s.heap.objs.size (fun j => decide (j ∈ ns)) c → c ≤ ns.length → (∀ b o, s.heap.get? b = some o → h'.get? b = some o) → Q (.ref s.heap.objs.size) { s with heap := h', toks := tk }) :
    wpAny (model P w) A (call (.type "set") [.ref l]) Q E s := by
  have hisz : items.size = ns.length := by
    have q := IntsAre.length hit
    rw [Array.length_toList] at q
    exact q
  obtain ⟨c, tl, hmro⟩ := F.called_set.mro
  have hmade := F.called_set.made
  have hsub := F.called_set.sub
  refine wpAny_call (codeAny_of_tree ?_)
  show wpAny _ _ (callAny (.type "set") _) _ _ _
  refine wpAny_pure ⟨Code.quiet_builtin _ (by decide +kernel), codeAny_builtin F.entry_type_call ?_⟩
  rw [Around.under_plain (weight_type_call_type "set" [.ref l] []) rfl]
  have h1 := F.called_set.notType
  have h2 := F.called_set.canCreate
  have hct := F.typeCall_set_1 (.ref l)
  repeat (any_goals (first | assumption | wp_step))

  refine codeAny_mono (code_set_led1 (.ref l) (E := E) (Q₁ := fun obj s₁ => obj = .ref s.heap.objs.size ∧ s₁ = { s with heap := s.heap.push { cls := .type "set", dict := none, data := .set #[] 0 (.fresh 0 0 (!w.params.followText "set-order")) } }) ⟨rfl, rfl⟩) fun r s₁ hr => ?_
  cases r with
  | error e => exact hr
  | ok fl =>
    cases fl with
    | ret obj =>
      obtain ⟨rfl, rfl⟩ := hr
      have hS : (s.heap.push { cls := .type "set", dict := none, data := .set #[] 0 (.fresh 0 0 (!w.params.followText "set-order")) }).get? s.heap.objs.size = some { cls := .type "set", dict := none, data := .set #[] 0 (.fresh 0 0 (!w.params.followText "set-order")) } := Heap.get?_push_size _ rfl
      have hT : Shared.TypeIs { s with heap := s.heap.push { cls := .type "set", dict := none, data := .set #[] 0 (.fresh 0 0 (!w.params.followText "set-order")) } } (.ref s.heap.objs.size) "set" := ⟨_, hS, rfl⟩
      have hli := F.called_set.init.lookup
      have hbi := F.called_set.init.bind (.ref s.heap.objs.size)
      repeat (any_goals (first | assumption | wp_step))

      refine codeAny_mono (codeAny_call_builtin (R := wants (fun r s₂ => r = .none ∧ ∃ h' tk c, s₂ = { s with heap := h', toks := tk } ∧ SetR w h' s.heap.objs.size (fun j => decide (j ∈ ns)) c ∧ c ≤ ns.length ∧
          (∀ b o, s.heap.get? b = some o → h'.get? b = some o)) E) F.called_set.init.plain F.entry_set_init (check_set_init_1 hT ?_)) fun r₂ s₂ hr₂ => ?_
      · obtain ⟨ol, hol, hcl, nl, hdl⟩ := hl
        obtain ⟨ocls, odict, odata, oslots⟩ := ol
        simp only at hcl hdl
        subst hcl; subst hdl
        have hol' : (s.heap.push { cls := .type "set", dict := none, data := .set #[] 0 (.fresh 0 0 (!w.params.followText "set-order")) }).get? l = some { cls := .type "list", dict := odict, data := .seq items nl, slots := oslots } := Heap.get?_push_of_some _ hol
        have hsls := F.sub_list_set
        have hslf := F.sub_list_frozenset
        have hne : (Value.type "list" == Value.type "dict") = false := by decide
        have hl1 : (s.heap.push { cls := .type "set", dict := none, data := .set #[] 0 (.fresh 0 0 (!w.params.followText "set-order")) }).IsList l items := ⟨_, hol', rfl, nl, rfl⟩
        unfold Builtin.«set.__init__» noKeywords Builtin.Frozenset.updateFrom
        generalize hPI : pyIter = PI
        wp_walk
        subst hPI

        refine wpAny_pyIter_list hl1 ?_
        refine wpAny_bind (wpAny_runValue ?_)
        have hlS : l < s.heap.objs.size := Heap.lt_size hol
        have hh3 : A.in1.in1.in1.handled = none := by simp [hh]
        have hz1 : (s.heap.push { cls := .type "set", dict := none, data := .set #[] 0 (.fresh 0 0 (!w.params.followText "set-order")) }).objs.size = s.heap.objs.size + 1 := Heap.size_push ..
        have hneI : l ≠ (s.heap.push { cls := .type "set", dict := none, data := .set #[] 0 (.fresh 0 0 (!w.params.followText "set-order")) }).objs.size := by
          rw [Heap.size_push]; exact Nat.ne_of_lt (Nat.lt_succ_of_lt hlS)
        have hSf : s.heap.objs.size ∉ [(s.heap.push { cls := .type "set", dict := none, data := .set #[] 0 (.fresh 0 0 (!w.params.followText "set-order")) }).objs.size, l] := by
          rw [Heap.size_push]; simp only [List.mem_cons, List.mem_singleton, List.not_mem_nil, or_false, not_or]
          exact ⟨Nat.ne_of_lt (Nat.lt_succ_self _), Nat.ne_of_gt hlS⟩
        have hval : ∀ (i : Nat) (v : Value), items[i]? = some v → ∃ k t, ns[i]? = some k ∧ v = .int k t := fun i v hv => by
          have hi : i < ns.length := by rw [← hisz]; exact (Array.getElem?_eq_some_iff.mp hv).1
          obtain ⟨t, e⟩ := PyProof.Rows.IntsAre.int_at hit i v (by rw [Array.getElem?_toList]; exact hv)
          refine ⟨ns[i], t, List.getElem?_eq_getElem hi, ?_⟩
          rw [e, List.getD_eq_getElem?_getD, List.getElem?_eq_getElem hi] <;> rfl
        refine set_update_ints ((Walks.list hh3 _ l hneI items).toS) s.heap.objs.size
          hSf ns hisz hb hval (items.size - 0) 0 _ (by omega) (Nat.zero_le _)
          ⟨⟨_, Heap.get?_push_size _ rfl, rfl, rfl⟩, (hl1.push _)⟩ ?hS0 ?hR
        case hS0 =>
          have hget : ((s.heap.push { cls := .type "set", dict := none, data := .set #[] 0 (.fresh 0 0 (!w.params.followText "set-order")) }).push { cls := .type "list_iterator", data := .fields #[.ref l, .int 0 0] }).get? s.heap.objs.size
              = some { cls := .type "set", dict := none, data := .set #[] 0 (.fresh 0 0 (!w.params.followText "set-order")) } := Heap.get?_push_of_some _ hS
          exact ⟨0, Nat.le_refl 0, setR_new_at hget⟩
        case hR =>
          intro s' c' hm hc' hS'
          obtain ⟨h', g2, d', tk', os'⟩ := s'
          have eg : g2 = s.gens := hm.gens
          have ed : d' = s.drawn := hm.drawn
          have eo : os' = s.os := hm.os
          subst eg; subst ed; subst eo
          show wpAny _ _ _ _ _ _
          refine wpAny_pure ?_
          show wpAny _ _ (ret Value.none) _ _ _
          rw [hisz] at hc'
          refine wpAny_pure ⟨rfl, h', tk', c', rfl, hS', hc', fun b o e => ?_⟩
          have hb0 : b < s.heap.objs.size := Heap.lt_size e
          have hb1 : b ≠ s.heap.objs.size := Nat.ne_of_lt hb0
          have hb2 : b ≠ (s.heap.push { cls := .type "set", dict := none, data := .set #[] 0 (.fresh 0 0 (!w.params.followText "set-order")) }).objs.size := by
            rw [Heap.size_push]; exact Nat.ne_of_lt (Nat.lt_succ_of_lt hb0)
          exact hm.heap b o (by simp only [List.mem_cons, List.mem_singleton, List.not_mem_nil, or_false, not_or]; exact ⟨hb1, hb2⟩) (Heap.get?_push_of_some _ (Heap.get?_push_of_some _ e))

      · cases r₂ with
        | error e => exact hr₂
        | ok fl₂ =>
          cases fl₂ with
          | ret r =>
            obtain ⟨rfl, h', tk, c', rfl, hS', hc', hk'⟩ := hr₂
            repeat (any_goals (first | assumption | wp_step))
            exact h _ _ _ hS' hc' hk'
          | _ => exact hr₂.elim
    | _ => exact hr.elim

end
section
variable {X : Cx}
/-- set(xs) of a list of ints -/
def rSetLI (K : Frag) (w : World) : List V → Hp → VK → Prop := fun xs H Q => ∃ (l : Addr) (ns : List Int), xs = [V.ref l] ∧ SqL K H l (ns.map V.int) ∧ ns.length ≤ 1000 ∧ ∀ a n, H a = none → n ≤ ns.length → Q (.ref a) (upd H a (SetO w a (fun j => decide (j ∈ ns)) n))
theorem cr_setLI (K : Frag) (w : World) (hc : X.calm = true := by rfl) (hK : X.K = K := by rfl) (hw : X.w = w := by rfl) : CallR X (.type "set") (rSetLI K w) := by
  subst hK hw
  rintro pins s σ H xs us Q I r ⟨l, ns, rfl, hl, hn, q⟩
  rw [Vals.ref1 r]
  obtain ⟨its, rv, pl, hz⟩ := I.list hl
  exact set_of_list (P := X.prog) (w := X.w) ns (I.ok.hd hc) pl.isList (ints_of_vals rv) (Nat.lt_of_le_of_lt (Nat.add_le_add_right hn 1) (by decide)) fun h' tk c R hc k =>
    ⟨.ref s.heap.objs.size, upd H s.heap.objs.size (SetO X.w s.heap.objs.size (fun j => decide (j ∈ ns)) c), I.laid (t' := tk) k (Nat.le_refl _) (setO_new R), rfl, q _ c (I.hok.fresh (Nat.le_refl _)) hc⟩
theorem k_sortedSet (w : World) (hc : X.calm = true := by rfl) (hw : X.w = w := by rfl) : CallR X (.builtin "sorted") (rSortedSet w) := hw ▸ cr_sortedSet hc

/-! dict(xs) of a list of pairs (a tuple of ints and texts, a value), the keys unlike -/
def rDictPT (K : Frag) : List V → Hp → VK → Prop := fun xs H Q => ∃ (a : Addr) (ps : List (Addr × Addr)) (kvs : List (List Key × V)), xs = [.ref a] ∧ SqL K H a (ps.map fun p => V.ref p.1) ∧
  Paired (fun p kv => Rd H p.1 (.tup [.ref p.2, kv.2]) ∧ H p.2 = some (.tup (kv.1.map kV))) ps kvs ∧ (kvs.map (·.1)).Nodup ∧ kvs.length ≤ 100000 ∧ ∀ p, H p = none → Q (.ref p) (upd H p (.dT kvs))
variable {pins : List (Addr × Obj)} {σ : L2.St} {H : Hp} {s : Shared}
theorem tups_of (I : Inv X pins σ H s) : ∀ {ps : List (Addr × Addr)} {kvs : List (List Key × V)}, Paired (fun p kv => Rd H p.1 (.tup [.ref p.2, kv.2]) ∧ H p.2 = some (.tup (kv.1.map kV))) ps kvs →
    ∃ xs : List (List Key × Addr × Value), KT H kvs xs ∧ xs.length = ps.length ∧ ∀ (j : Nat) (x : List Key × Addr × Value), xs[j]? = some x → ∃ p, ps[j]? = some p ∧ IsTup s.heap p.1 #[.ref x.2.1, x.2.2]
  | _, _, .nil => ⟨[], .nil, rfl, fun j x e => by simp at e⟩
  | _, _, .cons (a := p) (b := kv) ⟨h1, h2⟩ t => by
    obtain ⟨xs, r, hl, hx⟩ := tups_of I t
    obtain ⟨its, rv, ht, _⟩ := I.tuple (a := p.1) (xs := [.ref p.2, kv.2]) (.inl h1)
    obtain ⟨u, y, ei, ru, ry⟩ := vals2 rv
    subst ei
    cases ru
    refine ⟨(kv.1, p.2, y) :: xs, .cons ⟨rfl, h2, ry⟩ r, congrArg (· + 1) hl, fun j x e => ?_⟩
    cases j with
    | zero =>
      cases Option.some.inj e
      exact ⟨p, rfl, ht⟩
    | succ j =>
      obtain ⟨q, e1, e2⟩ := hx j x (by simpa using e)
      exact ⟨q, by simpa using e1, e2⟩
theorem stored_all : ∀ (ps xs : List (List Key × Addr × Value)), ((xs ++ ps).map (·.1)).Nodup → storedAllH xs ps = xs ++ ps
  | [], xs, _ => (List.append_nil xs).symm
  | p :: ps, xs, h => by
    show storedAllH (storedH xs p.1 p.2.1 p.2.2) ps = _
    have hk : atKey xs p.1 = none := by
      cases e : atKey xs p.1 with
      | none => rfl
      | some y =>
        exfalso
        have hm : p.1 ∈ xs.map (·.1) := by
          unfold atKey at e
          obtain ⟨x, ex, _⟩ := Option.map_eq_some_iff.mp e
          have h2 := List.find?_some ex
          rw [← of_decide_eq_true h2]
          exact List.mem_map_of_mem (List.mem_of_find?_eq_some ex)
        rw [List.map_append, List.nodup_append] at h
        exact h.2.2 _ hm _ (List.mem_map_of_mem List.mem_cons_self) rfl
    rw [storedH_new hk, stored_all ps (xs ++ [p]) (by rw [List.append_assoc]; exact h), List.append_assoc]
    rfl
theorem kt_mem {kvs : List (List Key × V)} {xs : List (List Key × Addr × Value)} (r : KT H kvs xs) : ∀ x ∈ xs, H x.2.1 = some (.tup (x.1.map kV)) := by
  induction r with
  | nil => intro x hx; cases hx
  | cons h _ ih =>
    intro x hx
    rcases List.mem_cons.mp hx with e | hx
    · subst e
      rw [← h.1]
      exact h.2.1
    · exact ih x hx
theorem kt_upd {a : Addr} {o : HO} (hn : H a = none) {kvs : List (List Key × V)} {xs : List (List Key × Addr × Value)} (r : KT H kvs xs) : KT (upd H a o) kvs xs := by
  induction r with
  | nil => exact .nil
  | cons h _ ih => exact .cons ⟨h.1, ext_new hn _ _ h.2.1, h.2.2⟩ ih
theorem cr_dictPT (K : Frag) (hu : X.A.units + 64 < cLine) (hc : X.calm = true := by rfl) (hK : X.K = K := by rfl) : CallR X (.type "dict") (rDictPT K) := by
  subst hK
  rintro pins s σ H us vs Q I r ⟨a, ps, kvs, rfl, hl, hp, nd, hn, q⟩
  rw [Vals.ref1 r]
  obtain ⟨its, rv, pl, hz⟩ := I.list hl
  obtain ⟨xs, rel, hlen, hx⟩ := tups_of I hp
  obtain ⟨o, n, ho, hcl, hdn, hdat⟩ := pl
  have hitl : its.length = ps.length := by rw [← rv.length, List.length_map]
  have hkl : kvs.length = xs.length := rel.length
  have hux : ((xs.map fun x => (Value.ref x.2.1, x.2.2)) : List (Value × Value)).length = xs.length := List.length_map ..
  have hnd : (xs.map (·.1)).Nodup := by
    have e : xs.map (·.1) = kvs.map (·.1) := by
      clear nd hn q hp hx hlen hkl hux
      induction rel with
      | nil => rfl
      | cons h _ ih => rw [List.map_cons, List.map_cons, ih, h.1]
    rw [e]
    exact nd
  have items : ∀ (j : Nat) (x : List Key × Addr × Value), xs[j]? = some x → ∃ p, ps[j]? = some p ∧ its[j]? = some (Value.ref p.1) ∧ IsTup s.heap p.1 #[.ref x.2.1, x.2.2] := fun j x e => by
    obtain ⟨p, e1, e2⟩ := hx j x e
    obtain ⟨u, eu, ru⟩ := rv.get (show (ps.map fun p => V.ref p.1)[j]? = some (V.ref p.1) by rw [List.getElem?_map, e1]; rfl)
    cases ru
    exact ⟨p, e1, eu, e2⟩
  refine call_dict_pairsH (knd := tupleKind (mixKind X.prog X.w)) (ps := xs) (PairArg.list (prog := X.prog) (w := X.w) a its.toArray (fun j => ((ps[j]?).map (·.1)).getD 0) (xs.map fun x => (Value.ref x.2.1, x.2.2))) (I.ok.hd hc) ?_ ⟨⟨o, n, ho, hcl, hdn, hdat⟩, ?_, ?_⟩ ⟨hux.symm, ?_⟩ ?_ ?_ fun h' tk hd k => ?_
  · show X.A.units + 1 + 1 < cLine
    omega
  · rw [List.size_toArray, hux, hitl, hlen]
  · intro j k v e
    rw [List.getElem?_map] at e
    cases ex : xs[j]? with
    | none => rw [ex] at e; cases e
    | some x =>
      rw [ex] at e
      cases e
      obtain ⟨p, e1, e2, e3⟩ := items j x ex
      refine ⟨by simp [e1, e2], .inl ?_⟩
      show s.heap.IsTuple (((ps[j]?).map (·.1)).getD 0) _
      rw [e1]
      exact e3
  · intro j key v e
    rw [PairRel, List.getElem?_map] at e
    cases ex : xs[j]? with
    | none => rw [ex] at e; cases e
    | some x =>
      rw [ex] at e
      cases e
      exact ⟨x.1, x.2.1, rfl, rfl⟩
  · intro h' kk x hxm
    obtain ⟨o2, arr, n2, g1, g2⟩ := key_of (P := X.prog) (w := X.w) I.hok (kt_mem rel x hxm)
    exact ⟨o2, arr, n2, kk _ _ (Nat.ne_of_lt (Heap.lt_size g1)) (by simp) g1, g2⟩
  · rw [hux, ← hkl]
    exact le_line hn
  · rw [stored_all xs [] hnd, List.nil_append] at hd
    obtain ⟨o', es, ep, g1, g2, g3, g4, _, g6⟩ := hd
    refine ⟨.ref s.heap.objs.size, upd H s.heap.objs.size (.dT kvs), I.laid (o := .dT kvs) (t' := tk) (fun b o e => k b o (by simp) e) (Nat.le_refl _) ⟨le_line hn, beq_eq_false_iff_ne.mpr (Nat.ne_of_gt I.big), xs, ?_, o', es, ep, g1, g2, g3, g4, g6⟩, rfl, q _ (I.hok.fresh (Nat.le_refl _))⟩
    exact kt_upd (I.hok.fresh (Nat.le_refl _)) rel
end
end Lh

set_option Elab.async false
set_option linter.all false
set_option maxRecDepth 100000
set_option maxHeartbeats 4000000
/-! enumerate(t) of a tuple. -/
namespace Lh
open PySem PySem.Spec PyProof.Rows L2 PySem.W
set_option maxHeartbeats 1000000 in
theorem meets_enum1 {v : Value} {ob : Obj} {G : Heap → Prop} (B : Begins v ob G) :
    Meets (Builtin.«enumerate.__new__» ⟨[.type "enumerate", v], []⟩) (fun _ R s => G s.heap ∧
      R (.ok (.ret (.ref (s.heap.push ob).objs.size))) { s with heap := (s.heap.push ob).push { cls := .type "enumerate", data := .fields #[.none, .bool false, .ref s.heap.objs.size, rawInt 0, .none, .none] } }) :=
  .of_wp fun prog w A R s h => by
    obtain ⟨hp, g, d, tk, os⟩ := s
    obtain ⟨h1, h⟩ := h
    have hsub := sub_enumerate
    have q1 : ∀ {A' : Around} {E : Value → Shared → Prop} {Q : Value → Shared → Prop}, Q (.ref hp.objs.size) ⟨hp.push ob, g, d, tk, os⟩ → wpAny (model prog w) A' (pyIter v) Q E ⟨hp, g, d, tk, os⟩ :=
      fun q => B.iter prog w _ _ ⟨hp, g, d, tk, os⟩ _ h1 q
    wp_walk using q1
    refine wpAny_stack_any fun st => wpAny_pure ?_
    split
    · rename_i c _ _ _ _ _
      cases (c == Value.type "enumerate") <;> (wp_walk using q1; exact ⟨_, rfl, h⟩)
    · wp_walk using q1
      exact ⟨_, rfl, h⟩
theorem enum_call1 {prog : Program} {w : World} {A : Around} {E : Value → Shared → Prop} {s : Shared} {v : Value} {ob : Obj} {G : Heap → Prop} {Q : Value → Shared → Prop} (B : Begins v ob G) (h1 : G s.heap)
    (h : ∀ h', IsEnum h' (s.heap.objs.size + 1) s.heap.objs.size 0 .none → h'.get? s.heap.objs.size = some ob → (∀ b u, s.heap.get? b = some u → h'.get? b = some u) → Q (.ref (s.heap.objs.size + 1)) { s with heap := h' }) :
    wpAny (model prog w) A (call (.type "enumerate") [v]) Q E s := by
  refine callType_new F.called_enumerate (by decide) (F.typeCall_enumerate_1 _) (F.newCall_enumerate_1 _) (fun obj => F.args_object_init_2 obj _) F.entry_enumerate_new (meets_enum1 B) ⟨h1, ?_⟩
  have hz : (s.heap.push ob).objs.size = s.heap.objs.size + 1 := Heap.size_push ..
  show _ ∧ _
  rw [hz]
  have he : IsEnum ((s.heap.push ob).push { cls := .type "enumerate", data := .fields #[.none, .bool false, .ref s.heap.objs.size, rawInt 0, .none, .none] }) (s.heap.objs.size + 1) s.heap.objs.size 0 .none := by
    have q := Heap.get?_push_size (s.heap.push ob) (o := { cls := .type "enumerate", data := .fields #[.none, .bool false, .ref s.heap.objs.size, rawInt 0, .none, .none] }) rfl
    rw [hz] at q
    exact q
  exact ⟨⟨_, he, rfl⟩, h _ he (Heap.get?_push_of_some _ (Heap.get?_push_size _ B.free)) fun b u x => Heap.get?_push_of_some _ (Heap.get?_push_of_some _ x)⟩
def IteT (K : Frag) (a : Addr) : It :=
  ⟨fun i H => ∃ (xs : List V) (x : V), SqT K H a xs ∧ xs[i]? = some x, fun i H v H' => ∃ T x, v = .ref T ∧ H T = none ∧ H' = upd H T (.tup [.int (i : Nat), x]) ∧ ∀ xs, SqT K H a xs → xs[i]? = some x, fun i H => ∃ xs : List V, SqT K H a xs ∧ xs.length = i⟩
theorem turn_enumT {P : Program} {w : World} {K : Frag} {elts : List Expr} {kk : Nat} {tpos : Pos} (a e it : Addr) :
    Turn P w K (.Tuple elts kk tpos) (IteT K a) [e, it] e (fun i h => (∃ old, IsEnum h e it ((i : Nat) : Int) old) ∧ h.IsTupleIter it a i ∧ e ≠ it) where
  mem := by simp
  obj := fun i h st b hb => by
    obtain ⟨⟨old, he⟩, ⟨o, ho, hc, hd⟩, _⟩ := st
    rcases List.mem_cons.mp hb with z | z
    · rw [z]
      exact ⟨_, he, fun v q => nomatch q⟩
    · rw [List.mem_singleton.mp z]
      exact ⟨o, ho, fun v q => by rw [hd] at q; cases q⟩
  keep := fun i h h' st k => by
    obtain ⟨⟨old, he⟩, hi, hne⟩ := st
    exact ⟨⟨old, k e (by simp) _ he⟩, hi.at fun o q => k it (by simp) o q, hne⟩
  item := by
    rintro X rfl rfl rfl hc i pins s σ H E I hf ⟨⟨old, he⟩, hit, hne⟩ ⟨xs, x, hq, hx⟩
    obtain ⟨its, rv, p, hz⟩ := I.tuple hq
    obtain ⟨u, hu, ru⟩ := rv.get hx
    have ⟨oa, ga, ca, na, da⟩ := p
    have ⟨oi, gi, ci, di⟩ := hit
    have nai : a ≠ it := fun z => by
      rw [z, gi] at ga
      cases ga
      rw [ci] at ca
      exact absurd ca (by decide)
    have nea : e ≠ a := fun z => by
      rw [z] at he
      have he' : s.heap.get? a = some _ := he
      rw [ga] at he'
      cases he'
      exact absurd (show Value.type "enumerate" = Value.type "tuple" from ca) (by decide)
    have Dr := Draws.tuple (prog := X.prog) (w := X.w) (A := X.A.in1) (I.ok.hd hc) it a nai its.toArray
    have hlt : i < its.toArray.size := by
      rw [List.size_toArray, ← rv.length]
      exact (List.getElem?_eq_some_iff.mp hx).1
    refine (GoesN.enumFrom (elts := elts) (x1 := kk) (pos := tpos) 0 Dr e hne (by simp only [List.mem_cons, List.not_mem_nil, or_false, not_or]; exact ⟨hne, nea⟩) (by simp)).goes i s
      (fun u s2 => ∃ x H', Inv X pins σ H' s2 ∧ RelV x u ∧ (IteT X.K a).yld i H x H' ∧ ((∃ old, IsEnum s2.heap e it ((i + 1 : Nat) : Int) old) ∧ s2.heap.IsTupleIter it a (i + 1) ∧ e ≠ it) ∧ ∀ b ∈ [e, it], H' b = none) E hlt ⟨⟨old, by rw [Int.zero_add]; exact he⟩, hit, p⟩ fun v h' tk ⟨T, t, y, ev, hn, hy, hT⟩ st' hk htk => ?_
    obtain ⟨⟨old', he'⟩, hit', _⟩ := st'
    rw [Int.zero_add] at he' hT
    have ey : y = u := by
      have : its.toArray[i]? = some y := hy
      rw [List.getElem?_toArray, hu] at this
      exact (Option.some.inj this).symm
    subst ey ev
    have new : ObjOk X.prog X.w (upd H T (.tup [.int (i : Nat), x])) h' T (.tup [.int (i : Nat), x]) :=
      ⟨by show 2 ≤ sizeLine; decide, [.int i t, y], .cons ⟨_, rfl⟩ (.cons ru .nil), hT⟩
    refine ⟨.ref T, upd H T (.tup [.int (i : Nat), x]), I.turnedNew (ch := [e, it]) hk hf hn new, rfl, ⟨T, x, rfl, I.hok.fresh hn, rfl, fun ys hys => ?_⟩, ⟨⟨old', he'⟩, hit', hne⟩, fun b hb => ?_⟩
    · rw [I.tuple_inj hys hq]
      exact hx
    · have hb' : b < s.heap.objs.size := by
        rcases List.mem_cons.mp hb with z | z
        · rw [z]; exact Heap.lt_size he
        · rw [List.mem_singleton.mp z]; exact Heap.lt_size gi
      rw [upd_ne (Nat.ne_of_lt (Nat.lt_of_lt_of_le hb' hn))]
      exact (hf b hb).1
  done := by
    rintro X rfl rfl rfl hc i pins s σ H E I hf ⟨⟨old, he⟩, hit, hne⟩ ⟨xs, hq, hx⟩
    obtain ⟨its, rv, p, hz⟩ := I.tuple hq
    have ⟨oa, ga, ca, na, da⟩ := p
    have ⟨oi, gi, ci, di⟩ := hit
    have nai : a ≠ it := fun z => by
      rw [z, gi] at ga
      cases ga
      rw [ci] at ca
      exact absurd ca (by decide)
    have Dr := Draws.tuple (prog := X.prog) (w := X.w) (A := X.A.in1) (I.ok.hd hc) it a nai its.toArray
    obtain ⟨f0, f1, f2, f3, f4, f5⟩ := hf it (by simp)
    have hi : i = its.toArray.size := by rw [List.size_toArray, ← rv.length, hx]
    exact wpAny_pyNext_enum_endD Dr he (by rw [← hi]; exact ⟨hit, p⟩) fun h' eb => ⟨rfl, I.turned (t' := s.toks) (fun b o hb q => eb b o hb q) f0 f1 f3 f4 f5⟩
  self := fun A i s Q E st h => by
    obtain ⟨⟨_, he⟩, _⟩ := st
    exact wpAny_pyIter_enum he h
def iEnumT (K : Frag) (ta : TA) : TI := fun σ H R => ta σ H fun vs H1 => ∃ a xs, vs = [.ref a] ∧ SqT K H1 a xs ∧ R (IteT K a) H1
theorem k_enumT (K : Frag) {X : Cx} {e : Expr} {ta : TA} {p pos tpos : Pos} {elts : List Expr} {kk : Nat} (hg : Gl X "enumerate") (hm : X.mg "enumerate" = none) (ha : PA X [e] ta) (hs : starEach [e] X.env = [(false, eval e X.env)] := by rfl) (hK : X.K = K := by rfl) :
    PI X (.Tuple elts kk tpos) (.Call (.Name "enumerate" p) [e] [] pos) (iEnumT K ta) := by
  subst hK
  refine ⟨fun pins s σ H R I h => ?_⟩
  refine Call_ (ld_blt I hg hm boot_enumerate (PyProof.Rows.callWith_type1 (thn (ha.run pos pins s σ H _ I h) fun us s1 ⟨vs, H1, I1, r1, q1⟩ => ?_) hs rfl))
  obtain ⟨a, xs, rfl, hq, q⟩ := q1
  rw [Vals.ref1 r1]
  obtain ⟨its, rv, tp, hz⟩ := I1.tuple hq
  refine enum_call1 (begins_tuple a its.toArray) tp fun h' he hit hk => wpAny_pyIter_enum he ?_
  have I2 : Inv X pins σ H1 { s1 with heap := h' } := I1.kept (t' := s1.toks) hk
  refine ⟨s1.heap.objs.size + 1, [s1.heap.objs.size + 1, s1.heap.objs.size], _, _, H1, rfl, I2, turn_enumT a (s1.heap.objs.size + 1) s1.heap.objs.size, ⟨⟨.none, he⟩, ⟨_, hit, rfl, rfl⟩, Nat.succ_ne_self _⟩, fun b hb => ?_, q⟩
  have hle : s1.heap.objs.size ≤ b := by
    rcases List.mem_cons.mp hb with z | z
    · rw [z]; exact Nat.le_succ _
    · rw [List.mem_singleton.mp z]; exact Nat.le_refl _
  exact I1.fpOk hle (I1.hok.fresh hle) |> fun f => ⟨f.1, f.2.1, f.2.2.1, f.2.2.2.1, f.2.2.2.2.1, f.2.2.2.2.2⟩
end Lh

set_option Elab.async false
set_option linter.all false
set_option maxRecDepth 100000
set_option maxHeartbeats 4000000
/-! The drawing's state: a dict of two lists of ints and two ints. -/
namespace Lh
open PySem PySem.Spec PyProof.Rows L2 PySem.W
def stK (g c : Addr) (r t : Int) : List (Key × V) := [(.inr "great", .ref g), (.inr "cells", .ref c), (.inr "rest", .int r), (.inr "turn", .int t)]
abbrev kG : Key := Sum.inr "great"
abbrev kC : Key := Sum.inr "cells"
abbrev kR : Key := Sum.inr "rest"
abbrev kT : Key := Sum.inr "turn"
theorem kGC : ¬ kG = kC := by decide +kernel
theorem kGR : ¬ kG = kR := by decide +kernel
theorem kGT : ¬ kG = kT := by decide +kernel
theorem kCR : ¬ kC = kR := by decide +kernel
theorem kCT : ¬ kC = kT := by decide +kernel
theorem kRT : ¬ kR = kT := by decide +kernel
theorem st_great (g c : Addr) (r t : Int) : valV (stK g c r t) kG = some (.ref g) := valV_pos rfl
theorem st_cells (g c : Addr) (r t : Int) : valV (stK g c r t) kC = some (.ref c) := (valV_neg kGC).trans (valV_pos rfl)
theorem st_rest (g c : Addr) (r t : Int) : valV (stK g c r t) kR = some (.int r) := (valV_neg kGR).trans ((valV_neg kCR).trans (valV_pos rfl))
theorem st_turn (g c : Addr) (r t : Int) : valV (stK g c r t) kT = some (.int t) := (valV_neg kGT).trans ((valV_neg kCT).trans ((valV_neg kRT).trans (valV_pos rfl)))
theorem st_putR (g c : Addr) (r t r' : Int) : putK (stK g c r t) kR (.int r') = stK g c r' t := by
  unfold putK
  rw [valV_any, st_rest]
  show [if kG = kR then _ else (kG, V.ref g), if kC = kR then _ else (kC, V.ref c), if kR = kR then (kR, V.int r') else _, if kT = kR then _ else (kT, V.int t)] = _
  rw [if_neg kGR, if_neg kCR, if_pos rfl, if_neg (fun e => kRT e.symm)]
  rfl
theorem st_putT (g c : Addr) (r t t' : Int) : putK (stK g c r t) kT (.int t') = stK g c r t' := by
  unfold putK
  rw [valV_any, st_turn]
  show [if kG = kT then _ else (kG, V.ref g), if kC = kT then _ else (kC, V.ref c), if kR = kT then _ else (kR, V.int r), if kT = kT then (kT, V.int t') else _] = _
  rw [if_neg kGT, if_neg kCT, if_neg kRT, if_pos rfl]
  rfl
/-- the state stands at p, with lists at g and c -/
structure StD (p g c : Addr) (r t : Int) (gs cs : List Int) (H : Hp) : Prop where
  hp : H p = some (.dK (stK g c r t))
  hg : H g = some (.lst (gs.map V.int))
  hc : H c = some (.lst (cs.map V.int))
  ne : g ≠ c
/-- how often the state may be mixed -/
def capN : Nat := 1000000000
def StA (p g c : Addr) (n : Nat) (H : Hp) : Prop := ∃ r t gs cs, StD p g c r t gs cs H ∧ 0 ≤ t ∧ t ≤ n
section
variable {p g c : Addr} {r t : Int} {gs cs : List Int} {H H' : Hp}
theorem StD.pg (h : StD p g c r t gs cs H) : p ≠ g := ne_of h.hp h.hg (by intro z; cases z)
theorem StD.pc (h : StD p g c r t gs cs H) : p ≠ c := ne_of h.hp h.hc (by intro z; cases z)
theorem StD.setP (h : StD p g c r t gs cs H) (r' t' : Int) : StD p g c r' t' gs cs (upd H p (.dK (stK g c r' t'))) :=
  ⟨upd_same, by rw [upd_ne h.pg.symm]; exact h.hg, by rw [upd_ne h.pc.symm]; exact h.hc, h.ne⟩
theorem StD.setG (h : StD p g c r t gs cs H) (gs' : List Int) : StD p g c r t gs' cs (upd H g (.lst (gs'.map V.int))) :=
  ⟨by rw [upd_ne h.pg]; exact h.hp, upd_same, by rw [upd_ne h.ne.symm]; exact h.hc, h.ne⟩
end
/-- what a def on the state changes -/
abbrev Sm (p g c a : Addr) : Prop := a = p ∨ a = g ∨ a = c
/-- from the state and such data to a datum of such a kind, at most k mixings -/
def spS (k : Nat) (rel : List PyData → (PyData → Prop) → Prop) : Sp := fun vs H Q _ => ∃ A p g c n us ds R, vs = .ref p :: us ∧ DqA A H us ds ∧ (∀ a, A a → Tk (H a)) ∧ (∀ a, Sm p g c a → A a) ∧ n + k ≤ capN ∧ StA p g c n H ∧ rel ds R ∧
  ∀ v d H', (∀ a o, H a = some o → ¬ Sm p g c a → H' a = some o) → StA p g c (n + k) H' → Dq A H' v d → R d → Q v H'
theorem StA.trk {p g c a : Addr} {n : Nat} {H : Hp} (h : StA p g c n H) (hm : Sm p g c a) : Tk (H a) := by
  obtain ⟨r, t, gs, cs, h, _⟩ := h
  rcases hm with e | e | e
  · rw [e, h.hp]; exact Tk.dK
  · rw [e, h.hg]; exact Tk.lst
  · rw [e, h.hc]; exact Tk.lst
theorem StA.keep {p g c : Addr} {n : Nat} {H H' : Hp} (h : StA p g c n H) (k : ∀ a o, H a = some o → Sm p g c a → H' a = some o) : StA p g c n H' := by
  obtain ⟨r, t, gs, cs, h, ht⟩ := h
  exact ⟨r, t, gs, cs, ⟨k _ _ h.hp (.inl rfl), k _ _ h.hg (.inr (.inl rfl)), k _ _ h.hc (.inr (.inr rfl)), h.ne⟩, ht⟩
theorem StA.up {p g c : Addr} {n n' : Nat} {H : Hp} (h : StA p g c n H) (k : n ≤ n') : StA p g c n' H := by
  obtain ⟨r, t, gs, cs, h, h0, ht⟩ := h
  exact ⟨r, t, gs, cs, h, h0, by omega⟩
theorem StA.least {p g c : Addr} {n : Nat} {H : Hp} (h : StA p g c n H) : ∃ n0, StA p g c n0 H ∧ n0 ≤ n ∧ ∀ n', StA p g c n' H → n0 ≤ n' := by
  obtain ⟨r, t, gs, cs, h, h0, ht⟩ := h
  refine ⟨t.toNat, ⟨r, t, gs, cs, h, h0, by omega⟩, by omega, fun n' ⟨r', t', gs', cs', h', h0', ht'⟩ => ?_⟩
  have e : Lh.stK g c r t = Lh.stK g c r' t' := by
    have := h.hp.symm.trans h'.hp
    injection this with this
    injection this
  have e2 : valV (Lh.stK g c r t) kT = valV (Lh.stK g c r' t') kT := by rw [e]
  rw [st_turn, st_turn] at e2
  injection e2 with e2
  injection e2 with e2
  omega
def mS (A : Addr → Prop) (p g c : Addr) (B : Nat) (H : Hp) : Md := { H0 := H, M := Sm p g c, I := StA p g c, ok := fun n => n ≤ B, A := A, X := [], itrk := StA.trk, imono := StA.keep, iup := StA.up, okd := fun h k => Nat.le_trans k h }
/-- as places go that have the state -/
structure Has (m : Md) (p g c : Addr) (B : Nat) : Prop where
  hM : m.M = Sm p g c
  hI : m.I = StA p g c
  hok : m.ok = fun n => n ≤ B
  cap : B ≤ capN
theorem Has.add {m : Md} {p g c q : Addr} {B : Nat} (h : Has m p g c B) : Has (m.add q) p g c B := ⟨h.hM, h.hI, h.hok, h.cap⟩
theorem Has.lt {m : Md} {p g c : Addr} {B : Nat} {H : Hp} (h : Has m p g c B) : Has (m.lt H) p g c B := ⟨h.hM, h.hI, h.hok, h.cap⟩
theorem Has.del {m : Md} {p g c q : Addr} {B : Nat} (h : Has m p g c B) : Has (m.del q) p g c B := ⟨h.hM, h.hI, h.hok, h.cap⟩
def startS (n : Nat) (p : Addr) (ds : List PyData) : Gam := some (Vl (.ref p)) :: (ds.map (fun d => some (D d)) ++ List.replicate (n - (ds.length + 1)) none)
theorem env_startS {A : Addr → Prop} {p g c : Addr} {n k : Nat} {H : Hp} {N : List Str} {us : List V} {ds : List PyData} (h : DqA A H us ds) (ht : ∀ a, A a → Tk (H a)) (hs : ∀ a, Sm p g c a → A a) (hI : StA p g c n H) : Env (mS A p g c (n + k) H) k (startS N.length p ds) (L2.start N (.ref p :: us)) H := by
  refine ⟨⟨n, Nat.le_refl _, hI⟩, fun _ _ h _ => h, hs, ht, fun _ h => absurd h (by show _ ∉ []; simp), ?_, fun i g e => ?_⟩
  · unfold L2.start startS
    simp only [List.length_append, List.length_map, List.length_replicate, List.length_cons, h.length]
    omega
  · unfold startS at e
    cases i with
    | zero =>
      cases e
      exact ⟨.ref p, rfl, rfl⟩
    | succ i =>
      rw [List.getElem?_cons_succ] at e
      by_cases hi : i < ds.length
      · rw [List.getElem?_append_left (by rw [List.length_map]; exact hi), List.getElem?_map] at e
        cases ed : ds[i]? with
        | none => rw [ed] at e; cases e
        | some d =>
          rw [ed] at e
          cases e
          obtain ⟨v, ev, hv⟩ := h.get ed
          refine ⟨v, ?_, hv⟩
          unfold L2.start
          rw [List.map_cons, List.cons_append, List.getElem?_cons_succ, List.getElem?_append_left (by rw [List.length_map, h.length]; exact hi), List.getElem?_map, ev]
          rfl
      · rw [List.getElem?_append_right (by rw [List.length_map]; omega), List.getElem?_replicate] at e
        split at e <;> cases e
/-- what arguments of such kinds may be -/
def Sat : List Ag → List PyData → Prop
  | [], ds => ds = []
  | .im f :: gs, ds => ∃ d r, ds = d :: r ∧ (∃ P : PyData → Prop, f = isP P ∧ P d ∨ f = isD d) ∧ Sat gs r
  | .box _ _ :: _, _ => False
section
variable {m : Md} {k r cl ce : Nat} {Γ : Gam} {σ : L2.St} {H H' : Hp} {t : TA} {te : TE} {p g c : Addr} {B : Nat} {Ex : XK} {ds : List PyData}
/-- a def on the state, its other arguments of such kinds -/
theorem ev_callS {kk : Nat} {gs : List Ag} {rel : List PyData → (PyData → Prop) → Prop} {R : PyData → Prop} (hs : Has m p g c B) (h : EvA m cl t Γ (Vl (.ref p) :: gs)) (hr : ∀ H us, OnAll m H us gs → ∃ ds R', DqA m.A H us ds ∧ rel ds R' ∧ ∀ d, R' d → R d) : Ev m (cl + kk) (tCall (spS kk rel) [] Ex t) Γ (U R) := fun σ H E Q q =>
  h σ H E.le _ fun vs H1 s o => by
    have E1 : Env m kk Γ σ H1 := E.step s
    cases o with
    | cons o1 o2 =>
      rename_i us
      have e : _ = V.ref p := o1
      subst e
      obtain ⟨n, ho, hI⟩ := E1.inv
      rw [hs.hI] at hI
      have ho' : n + kk ≤ B := by
        have h3 := ho
        rw [hs.hok] at h3
        exact h3
      obtain ⟨n0, hI0, hle, hmin⟩ := hI.least
      obtain ⟨ds, R', hd, hrel, himp⟩ := hr H1 us o2
      have hc := hs.cap
      refine ⟨m.A, p, g, c, n0, us, ds, R', by rw [List.append_nil], hd, E1.trk, fun a ha => E1.sub a (by rw [hs.hM]; exact ha), by omega, hI0, hrel, fun v d H2 kp hS od rd => ?_⟩
      refine q v H2 ⟨fun a u e n => kp a u (s.kp a u e n) (by rw [← hs.hM]; exact n), fun n' ho2 hI2 => ?_⟩ ⟨d, od, himp d rd⟩
      have h5 := s.inv n' (m.okd ho2 (by omega)) hI2
      rw [hs.hI] at h5 ⊢
      exact hS.up (by have := hmin _ h5; omega)
/-- .. known data -/
theorem ev_callS1 {kk : Nat} {rel : List PyData → (PyData → Prop) → Prop} {R : PyData → Prop} {tp : TE} (hs : Has m p g c B) (h0 : Ev m ce tp Γ (Vl (.ref p))) (h : EvDs m cl t Γ ds) (hr : rel ds R) : Ev m ((ce + cl) + kk) (tCall (spS kk rel) [] Ex (tCons tp t)) Γ (U R) :=
  ev_callS hs (eva_cons h0 h) fun H us o => ⟨ds, R, o.data, hr, fun _ h => h⟩
/-- what a def on the state hands back -/
theorem ret_S {A : Addr → Prop} {H0 : Hp} {R : PyData → Prop} {Q : VK} {v : V} (hs : Has m p g c B) (hm : m.H0 = H0) (hA : ∀ a, A a → m.A a)
    (q : ∀ v d H', (∀ a o, H0 a = some o → ¬ Sm p g c a → H' a = some o) → StA p g c B H' → Dq A H' v d → R d → Q v H') (E : Env m k Γ σ H') (o : (U R).on m H' v) : Q v H' := by
  subst hm
  obtain ⟨d, od, rd⟩ := o
  obtain ⟨n, ho, hI⟩ := E.inv
  rw [hs.hI] at hI
  rw [hs.hok] at ho
  exact q v d H' (fun a u e n => E.fr a u e (by rw [hs.hM]; exact n)) (hI.up (Nat.le_trans (Nat.le_add_right _ _) ho)) (Dq.to (fun a u e n => ⟨e, fun z => n (hA a z)⟩) od) rd
theorem has_mS {A : Addr → Prop} {H : Hp} (h : B ≤ capN) : Has (mS A p g c B H) p g c B := ⟨rfl, rfl, rfl, h⟩
end
end Lh

set_option Elab.async false
set_option linter.all false
set_option maxRecDepth 100000
set_option maxHeartbeats 2000000
/-! Where nothing is counted: the statements' words without a cost. -/
namespace Lh
open PySem PySem.Spec PyProof.Rows L2 PySem.W
section
variable {m : Md} {k : Nat} {Γ : Gam} {σ : L2.St} {H : Hp} {g : Ag} {p : Addr} {wi : TI} {tg : TG} {tt : TT} {te : TE} {t : TA} {tbd tth tel : TS} {K : Frag} {De : Ends} {d : PyData} {ds : List PyData}
theorem go_set0 {i : Nat} (E : Env m k Γ σ H) (h : ∃ c, Ev m c te Γ g) (q : ∀ σ' H', Env m 0 (Γ.set i (some g)) σ' H' → De.nx σ' H') (hf : ∀ n, m.ok n := by intro _; trivial) : tAsg te (gName i) De σ H := by
  obtain ⟨c, h⟩ := h
  exact go_set E (.inl hf) h q
theorem go_asg0 {vs : List Nat} {f : Im} {Γ' : Gam} (E : Env m k Γ σ H) (h : ∃ c, Ev m c te Γ (.im f)) (hg : Tg m tg Γ f Γ' vs) (q : ∀ σ' H', Env m 0 Γ' σ' H' → De.nx σ' H') (hf : ∀ n, m.ok n := by intro _; trivial) : tAsg te tg De σ H := by
  obtain ⟨c, h⟩ := h
  exact go_asg E (.inl hf) h hg q
theorem go_ret0 (E : Env m k Γ σ H) (h : ∃ c, Ev m c te Γ g) (q : ∀ v H', Env m 0 Γ σ H' → g.on m H' v → De.rt v H') (hf : ∀ n, m.ok n := by intro _; trivial) : tRet te De σ H := by
  obtain ⟨c, h⟩ := h
  exact go_ret E (.inl hf) h fun v H' _ E' o => q v H' E' o
theorem go_if0 {P : Bool → Prop} (E : Env m k Γ σ H) (h : ∃ c, EvT m c tt Γ P) (k1 : P true → ∀ H', Env m 0 Γ σ H' → tth De σ H') (k2 : P false → ∀ H', Env m 0 Γ σ H' → tel De σ H') (hf : ∀ n, m.ok n := by intro _; trivial) : tIfS tt tth tel De σ H := by
  obtain ⟨c, h⟩ := h
  exact go_if E (.inl hf) h k1 k2
theorem go_box0 {i : Nat} (E : Env m k Γ σ H) (h : ∃ c, EvDs m c t Γ ds) (hz : ds.length ≤ sizeLine) (q : ∀ p σ' H', NoBox p Γ → ¬ m.A p → ¬ m.M p → Env (m.add p) 0 (Γ.set i (some (.box p (bL ds)))) σ' H' → De.nx σ' H') (hf : ∀ n, m.ok n := by intro _; trivial) : tAsg (tLst t) (gName i) De σ H := by
  obtain ⟨c, h⟩ := h
  exact go_box E (.inl hf) h hz q
theorem go_appendX0 {α : Type} [DecidableEq α] [Datum α] {xs : List α} {x : α} {i : Nat} (E : Env m k Γ σ H) (hi : Γ[i]? = some (some (Bxl p xs))) (h : ∃ c, Ev m c te Γ (J x)) (hz : xs.length < sizeLine) (hb : NoBox p (Γ.set i none))
    (q : ∀ H', Env m 0 (Γ.set i (some (Bxl p (xs ++ [x])))) σ H' → De.nx σ H') (hf : ∀ n, m.ok n := by intro _; trivial) : tDrop (tBM K "list" rAppend (tVar i) (tCons te tNil)) De σ H := by
  obtain ⟨c, h⟩ := h
  exact go_appendX E (.inl hf) hi h hz hb q
theorem go_for0 {gs : List Im} {j : Nat} (E : Env m k Γ σ H) (hI : ∃ c, EvI m c wi Γ gs) (Inv : Nat → Gam → Prop) (h0 : Inv 0 Γ)
    (ht : ∀ H1 i g Γ' k' σ' H', gs[i]? = some g → Inv i Γ' → Env (m.lt H1) k' (Γ'.set j (some (.im g))) σ' H' → tbd { De with nx := fun σ H => ∃ Γ' k', Inv (i + 1) Γ' ∧ Env (m.lt H1) k' Γ' σ H, ct := fun σ H => ∃ Γ' k', Inv (i + 1) Γ' ∧ Env (m.lt H1) k' Γ' σ H, bk := De.nx } σ' H')
    (hd : ∀ Γ' k' σ' H', Inv gs.length Γ' → Env m k' Γ' σ' H' → De.nx σ' H') (hf : ∀ n, m.ok n := by intro _; trivial) : tFor wi (gName j) tbd De σ H := by
  obtain ⟨c, h⟩ := hI
  exact go_for1 E (r := 0) (.inl hf) h (fun i Γ _ => Inv i Γ) h0 ht hd
theorem go_while0 (E : Env m k Γ σ H) (Inv : Nat → Gam → Prop) {n0 : Nat} (h0 : Inv n0 Γ)
    (ht : ∀ n Γ', Inv n Γ' → ∃ P, (∃ c, EvT m c tt Γ' P) ∧ (P true → ∀ σ' H', Env m 0 Γ' σ' H' → tbd { De with nx := fun σ H => ∃ n' Γ' k', n' < n ∧ Inv n' Γ' ∧ Env m k' Γ' σ H, ct := fun σ H => ∃ n' Γ' k', n' < n ∧ Inv n' Γ' ∧ Env m k' Γ' σ H, bk := De.nx } σ' H') ∧
      (P false → ∀ σ' H', Env m 0 Γ' σ' H' → De.nx σ' H')) (hf : ∀ n, m.ok n := by intro _; trivial) : tWhile tt tbd De σ H :=
  go_while E (fun n Γ _ => Inv n Γ) h0 fun n Γ' k' hi => by
    obtain ⟨P, ⟨c, h⟩, a, b⟩ := ht n Γ' hi
    exact ⟨c, 0, P, .inl hf, h, a, b⟩
/-- walking a tuple with its places -/
def enumD (ds : List PyData) : List PyData := (List.range ds.length).map fun i => .tuple [.int (i : Nat), ds.getD i .none]
theorem walks_enumT {A₀ : Addr → Prop} {a : Addr} (h : Dq A₀ H (.ref a) (.tuple ds)) : Walks A₀ H (IteT K a) ((enumD ds).map isD) := fun A' H' kk hA => by
  obtain ⟨_, xs, e, h1, h2, h3⟩ := Dq.tuple h
  cases e
  have e := (To.rd kk h1 h2).1
  have h4 := h3.to kk
  refine ⟨fun i g hg => ?_, xs, .inl e, ?_⟩
  · unfold enumD at hg
    rw [List.map_map, List.getElem?_map] at hg
    by_cases hi : i < ds.length
    · rw [List.getElem?_range hi] at hg
      cases hg
      have ed : ds[i]? = some ds[i] := List.getElem?_eq_getElem hi
      obtain ⟨v, ev, hv⟩ := h4.get ed
      refine ⟨⟨xs, v, .inl e, ev⟩, fun x H'' ⟨T, y, ex, hT, eH, hy⟩ => ?_⟩
      subst ex eH
      have := hy xs (.inl e)
      rw [ev] at this
      cases this
      refine ⟨ext_new hT, ?_⟩
      have nT : ¬ A' T := fun z => (hA T z).1 hT
      refine Dq.newT nT hT (.cons (.int _) (.cons ?_ .nil))
      rw [List.getD_eq_getElem?_getD, ed]
      exact hv
    · rw [List.getElem?_eq_none (by rw [List.length_range]; omega)] at hg
      cases hg
  · rw [List.length_map, h4.length]
    unfold enumD
    rw [List.length_map, List.length_range]
theorem ei_enumT {ce : Nat} (h : Ev m ce te Γ (D (.tuple ds))) : EvI m ce (iEnumT K (tCons te tNil)) Γ ((enumD ds).map isD) := fun σ H E R q => h σ H E _ fun v H' s o => by
  obtain ⟨a, xs, rfl, h1, h2, h3⟩ := Dq.tuple o
  exact ⟨a, xs, rfl, .inl h1, q _ _ s (walks_enumT o)⟩
end
end Lh

set_option Elab.async false
set_option linter.all false
set_option maxRecDepth 100000
set_option maxHeartbeats 2000000
/-! Draws: what is known only by a property. -/
namespace Lh
open PySem PySem.Spec PyProof.Rows L2 PySem.W
section
variable {m : Md} {k ce ca cb ci ct cu : Nat} {Γ : Gam} {te ta tb ti : TE} {tt : TT} {t : TA} {K : Frag} {d : PyData} {ds : List PyData}
/-- a number below n, drawn -/
abbrev Below (n : Int) : PyData → Prop := fun d => ∃ k : Int, d = .int k ∧ 0 ≤ k ∧ k < n
theorem ev_ixLU {n : Int} (h : Ev m ca te Γ (D (.list ds))) (hi : Ev m cb ti Γ (U (Below n))) (hn : n ≤ ds.length) : Ev m (ca + cb) (tOp (rIxL K) te ti) Γ (U (· ∈ ds)) :=
  ev_op h hi fun σ H E x y o1 o2 Q q => by
    obtain ⟨d, o2, k, rfl, h0, h1⟩ := o2
    obtain ⟨a, xs, rfl, g1, g2, g3⟩ := Dq.list o1
    cases Dq.is_int o2
    obtain ⟨j, rfl⟩ := Int.eq_ofNat_of_zero_le h0
    have hj : j < ds.length := by omega
    obtain ⟨v, ev, hv⟩ := g3.get (List.getElem?_eq_getElem hj)
    exact ⟨a, xs, (j : Nat), v, rfl, rfl, .inl (.inl g1), atI_nat ev, q v H Stp.refl ⟨_, hv, List.getElem_mem hj⟩⟩
theorem ev_ixTU {n : Int} (h : Ev m ca te Γ (D (.tuple ds))) (hi : Ev m cb ti Γ (U (Below n))) (hn : n ≤ ds.length) : Ev m (ca + cb) (tOp (rIxT K) te ti) Γ (U (· ∈ ds)) :=
  ev_op h hi fun σ H E x y o1 o2 Q q => by
    obtain ⟨d, o2, k, rfl, h0, h1⟩ := o2
    obtain ⟨a, xs, rfl, g1, g2, g3⟩ := Dq.tuple o1
    cases Dq.is_int o2
    obtain ⟨j, rfl⟩ := Int.eq_ofNat_of_zero_le h0
    have hj : j < ds.length := by omega
    obtain ⟨v, ev, hv⟩ := g3.get (List.getElem?_eq_getElem hj)
    exact ⟨a, xs, (j : Nat), v, rfl, rfl, .inl g1, atI_nat ev, q v H Stp.refl ⟨_, hv, List.getElem_mem hj⟩⟩
/-- an int operation on drawn ints -/
theorem ev_opU {f : Int → Int → V} {p q : Int → Prop} {P : PyData → Prop} (ha : Ev m ca ta Γ (U fun d => ∃ i, d = .int i ∧ p i)) (hb : Ev m cb tb Γ (U fun d => ∃ i, d = .int i ∧ q i)) (h : ∀ i j, p i → q j → ∃ d, Sc (f i j) d ∧ P d) : Ev m (ca + cb) (tOp (rI0 f) ta tb) Γ (U P) :=
  ev_op ha hb fun σ H E x y ⟨d1, o1, i, e1, hi⟩ ⟨d2, o2, j, e2, hj⟩ Q k => by
    subst e1 e2
    cases Dq.is_int o1
    cases Dq.is_int o2
    obtain ⟨d, sd, pd⟩ := h i j hi hj
    exact ⟨i, j, rfl, rfl, k _ H Stp.refl ⟨d, sd.dq, pd⟩⟩
theorem Ev.asU {i : Int} (h : Ev m ce te Γ (D (.int i))) : Ev m ce te Γ (U fun d => ∃ z, d = .int z ∧ z = i) := h.toP ⟨i, rfl, rfl⟩
/-- a display of one drawn thing -/
theorem ev_lst1U {P : PyData → Prop} (h : Ev m ce te Γ (U P)) : Ev m ce (tLst (tCons te tNil)) Γ (U fun d => ∃ x, d = .list [x] ∧ P x) := fun σ H E Q q =>
  h σ H E _ fun v H1 s ⟨x, o, px⟩ => ⟨by show 1 ≤ sizeLine; decide, fun p hp => q _ _ (s.trans (Stp.new hp)) ⟨.list [x], Dq.newL ((E.step (r := 0) s).free hp) hp (.cons o .nil), x, rfl, px⟩⟩
/-- tuple(..) of a drawn list -/
theorem ev_tupU {P : List PyData → Prop} (h : Ev m ce te Γ (U fun d => ∃ ds, d = .list ds ∧ P ds)) : Ev m ce (tCB (rTupS K) (tCons te tNil)) Γ (U fun d => ∃ ds, d = .tuple ds ∧ P ds) := fun σ H E Q q => h σ H E _ fun v H1 s ⟨d, o, ds, e, pd⟩ => by
  subst e
  obtain ⟨a, xs, rfl, h1, h2, h3⟩ := Dq.list o
  exact ⟨a, xs, rfl, .inl ⟨.inl (.inl h1), fun l hl => q _ _ (s.trans (Stp.new hl)) ⟨_, Dq.newT ((E.step (r := 0) s).free hl) hl h3, ds, rfl, pd⟩⟩⟩
end
end Lh

set_option Elab.async false
set_option linter.all false
set_option maxRecDepth 100000
set_option maxHeartbeats 2000000
/-! New lists, calls by keywords alone, isinstance. -/
namespace Lh
open PySem PySem.Spec PyProof.Rows L2 PySem.W
section
variable {X : Cx} {CX : CXT} {k : Nat} {f : Addr} {fd : FuncData} {ps ks : List Str} {sp : Sp} {E : XK} {x : Str} {p pos : Pos} {kws : List Keyword} {tk : TA}
/-- how a call by keywords alone binds: the parameters in their order are the keywords' values at π -/
def KB (K : Frag) (fd : FuncData) (ps ks : List Str) (π : List Nat) : Prop := ∀ (s : Shared) (ws : List Value), ws.length = π.length → BindsTo s fd ⟨[], ks.zip ws⟩ (ps.zip (π.map fun i => ws.getD i .none))
def pickV (π : List Nat) (zs : List V) : List V := π.map fun i => zs.getD i .non
theorem pick_vals {zs : List V} {ws : List Value} (r : Vals zs ws) : ∀ π : List Nat, Vals (pickV π zs) (π.map fun i => ws.getD i .none)
  | [] => .nil
  | i :: π => by
    refine .cons ?_ (pick_vals r π)
    show L2.RelV (zs.getD i .non) (ws.getD i .none)
    rw [List.getD_eq_getElem?_getD, List.getD_eq_getElem?_getD]
    cases e : zs[i]? with
    | none =>
      rw [r.none_of e]
      rfl
    | some z =>
      obtain ⟨u, e1, e2⟩ := r.get e
      rw [e1]
      exact e2
def tCallKw (sp : Sp) (π : List Nat) (E : XK) (tk : TA) : TE := fun σ H Q => tk σ H fun zs H1 => zs.length = π.length ∧ sp (pickV π zs) H1 Q E
theorem k_callKw {π : List Nat} (F : FnOk X.prog X.w X.K X.mg X.base CX k f fd ps sp) (hr : Room k X.A) (hg : Gl X x) (hm : X.mg x = some (.ref f)) (hk : PySem.W.keepIn X.K (.ref f) = true) (hb : KB X.K fd ps ks π) (hx : Passes CX X E) (hkw : PK X kws tk)
    (hall : (backToKw pos (keywordEach kws X.env)).all (·.1.isSome) = true := by rfl) (hks : (backToKw pos (keywordEach kws X.env)).filterMap (·.1) = ks := by rfl) (hdb : (x == ("__debug__" : Str)) = false := by decide)
    (hpl : ((backTo pos (starEach [] X.env)).any (·.1) || (backToKw pos (keywordEach kws X.env)).any (·.1.isNone)) = false := by rfl) : PE X (.Call (.Name x p) [] kws pos) (tCallKw sp π E tk) := by
  refine ⟨fun pins s σ H Q I h => ?_⟩
  refine wpAny_Call_Name_kw (ld_glob I hg hm ?_ hdb)
  refine PySem.W.callWith_KW0 (h₀ := X.base) I.ok.mod.kin hk hall ?_ hpl
  refine thn (hkw.run pos pins s σ H _ I h) fun ws s2 ⟨zs, H2, I2, rz, hl, q2⟩ => ⟨I2.kIn, ?_⟩
  rw [hks]
  refine wpAny_call (codeAny_mono (F.run X.A X.stack s2 H2 ⟨[], ks.zip ws⟩ (π.map fun i => ws.getD i .none) (pickV π zs) Q E hr I2.env0 (hb s2 ws (by rw [← rz.length]; exact hl)) (pick_vals rz π) q2) fun r s' hq => ?_)
  cases r with
  | error e => exact hx pins σ H2 s2 e s' I2 hq
  | ok fl =>
    cases fl with
    | ret u => exact I2.after hq
    | next => exact False.elim hq
    | brk => exact False.elim hq
    | cont => exact False.elim hq
end
section
variable {m : Md} {k r c ce ca cb ct cl : Nat} {Γ : Gam} {σ : L2.St} {H : Hp} {te ta tb : TE} {tt : TT} {t tk : TA} {K : Frag} {De : Ends} {d : PyData} {ds es fs : List PyData} {Ex : XK}
theorem pick_data {A : Addr → Prop} {H : Hp} {zs : List V} {es : List PyData} (h : DqA A H zs es) : ∀ π : List Nat, DqA A H (pickV π zs) (π.map fun i => es.getD i .none)
  | [] => .nil
  | i :: π => by
    refine .cons ?_ (pick_data h π)
    show Dq A H (zs.getD i .non) (es.getD i .none)
    rw [List.getD_eq_getElem?_getD, List.getD_eq_getElem?_getD]
    cases e : es[i]? with
    | none =>
      have : zs[i]? = none := List.getElem?_eq_none (by rw [h.length]; exact List.getElem?_eq_none_iff.mp e)
      rw [this]
      exact .non
    | some z =>
      obtain ⟨u, e1, e2⟩ := h.get e
      rw [e1]
      exact e2
theorem ev_callKw {rel : List PyData → PyData → Prop} {π : List Nat} (h : EvDs m cl tk Γ es) (hl : es.length = π.length) (hr : rel (π.map fun i => es.getD i .none) d) : Ev m cl (tCallKw (spD rel) π Ex tk) Γ (D d) := fun σ H E Q q =>
  h σ H E _ fun zs H1 s o => ⟨by rw [o.length, List.length_map]; exact hl, m.A, _, d, pick_data o.data π, (E.step (r := 0) s).trk, hr, fun v H2 k od => q v H2 (s.trans (Stp.ext k)) od⟩
/-- a new list comes -/
def EvN (m : Md) (c : Nat) (te : TE) (Γ : Gam) (es : List PyData) : Prop := ∀ σ H, Env m c Γ σ H → ∀ Q : VK, (∀ p xs H1 H2, Stp m c H H1 → (∀ a o, H1 a = some o → H2 a = some o) → H1 p = none → H2 p = some (.lst xs) → DqA (fun a => m.A a ∨ a = p) H2 xs es → Q (.ref p) H2) → te σ H Q
theorem en_call {rel : List PyData → List PyData → Prop} (h : EvDs m cl t Γ ds) (hr : rel ds es) : EvN m cl (tCall (spL rel) [] Ex t) Γ es := fun σ H E Q q =>
  h σ H E _ fun vs H1 s o => ⟨m.A, ds, es, by rw [List.append_nil]; exact o.data, (E.step (r := 0) s).trk, hr, fun p xs H2 k hn hp ha => q p xs H1 H2 s k hn hp ha⟩
theorem en_callKw {rel : List PyData → List PyData → Prop} {π : List Nat} (h : EvDs m cl tk Γ fs) (hl : fs.length = π.length) (hr : rel (π.map fun i => fs.getD i .none) es) : EvN m cl (tCallKw (spL rel) π Ex tk) Γ es := fun σ H E Q q =>
  h σ H E _ fun zs H1 s o => ⟨by rw [o.length, List.length_map]; exact hl, m.A, _, es, pick_data o.data π, (E.step (r := 0) s).trk, hr, fun p xs H2 k hn hp ha => q p xs H1 H2 s k hn hp ha⟩
theorem en_if {P : Bool → Prop} (h : EvT m ct tt Γ P) (ha : P true → EvN m ca ta Γ es) (hb : P false → EvN m cb tb Γ es) : EvN m (ct + ca + cb) (tIf tt ta tb) Γ es := fun σ H E Q q =>
  h σ H E.le _ fun b H1 s1 p => by
    cases b with
    | true =>
      show ta σ H1 Q
      exact ha p σ H1 (E.step s1) Q fun p xs H2 H3 s2 => q p xs H2 H3 (s1.trans s2).le
    | false =>
      show tb σ H1 Q
      exact hb p σ H1 (E.step s1) Q fun p xs H2 H3 s2 => q p xs H2 H3 (s1.trans s2).le
/-- .. that will change -/
theorem go_boxN {i : Nat} (E : Env m k Γ σ H) (hs : m.Spend k c r) (h : EvN m c te Γ es)
    (q : ∀ p σ' H', NoBox p Γ → ¬ m.A p → ¬ m.M p → Env (m.add p) r (Γ.set i (some (.box p (bL es)))) σ' H' → De.nx σ' H') : tAsg te (gName i) De σ H :=
  h σ H (E.lend hs) _ fun p xs H1 H2 s kk hn hp ha => by
    have E1 := E.pay s hs
    have hn' : ¬ m.A p := E1.free hn
    have hM : ¬ m.M p := E1.freeM hn
    have h0 : m.H0 p = none := E1.free0 hn
    have E2 : Env m r Γ σ H2 := E1.step (Stp.ext kk)
    have nb : NoBox p Γ := E1.noBox hn
    have tt : To m.A H1 (m.add p).A H2 := fun a o e n => ⟨kk a o e, fun z => z.elim n (ne_of_none e hn)⟩
    have E3 : Env (m.add p) r Γ σ H2 := by
      refine ⟨E2.inv, E2.fr, fun a ha => .inl (E2.sub a ha), fun a ha => ?_, fun x hx => x.2.mono tt (E1.ex x hx), E2.len, fun i g e => ?_⟩
      · rcases ha with ha | rfl
        · exact E2.trk a ha
        · rw [hp]; exact Tk.lst
      · obtain ⟨v, h1, h2⟩ := E1.sl i g e
        refine ⟨v, h1, ?_⟩
        cases g with
        | im f => exact f.mono tt h2
        | box q b =>
          obtain ⟨e1, h3, h4, h5, u, h6, h7⟩ := h2
          exact ⟨e1, .inl h3, h4, h5, u, kk q u h6, b.mono tt h7⟩
    exact q p _ _ nb hn' hM (E3.set ⟨rfl, .inr rfl, hM, h0, _, hp, xs, rfl, ha⟩)
/-- isinstance(x, T), T a built-in type -/
theorem ev_isi {n : String} {b : Bool} {g : Ag} (h : Ev m ce te Γ g) (hk : ∀ H v, g.on m H v → ∃ t, TyX K H v t ∧ PySem.W.kitOne K t (.type n) = some b) : Ev m (ce + 0) (tCB (rIsi K) (tCons te (tCons (tC (.ty n)) tNil))) Γ (D (.bool b)) := fun σ H E Q q =>
  h σ H E.le _ fun v H1 s o => by
    obtain ⟨t, h1, h2⟩ := hk H1 v o
    exact ⟨v, .ty n, t, .type n, b, rfl, .ty n, h1, h2, q _ _ s (.bl b)⟩
end
end Lh

set_option Elab.async false
set_option linter.all false
set_option maxRecDepth 100000
set_option maxHeartbeats 4000000
/-! A box read as data; a box left behind. -/
namespace Lh
open PySem PySem.Spec PyProof.Rows L2 PySem.W
section
variable {m : Md} {k r c : Nat} {Γ : Gam} {σ : L2.St} {H H' : Hp} {p : Addr} {ds : List PyData} {g : Ag}
theorem Env.shrink {A' : Addr → Prop} (E : Env m k Γ σ H) (hA : ∀ a, A' a → m.A a) (hM : ∀ a, m.M a → A' a) (hB : ∀ (i : Nat) (q : Addr) (b : Bx), Γ[i]? = some (some (Ag.box q b)) → A' q) : Env { m with A := A' } k Γ σ H := by
  have t : To m.A H A' H := fun a o h n => ⟨h, fun z => n (hA a z)⟩
  refine ⟨E.inv, E.fr, hM, fun a h => E.trk a (hA a h), fun x hx => x.2.mono t (E.ex x hx), E.len, fun i g e => ?_⟩
  obtain ⟨v, h1, h2⟩ := E.sl i g e
  refine ⟨v, h1, ?_⟩
  cases g with
  | im f => exact f.mono t h2
  | box q b =>
    obtain ⟨e1, _, h3, h4, o, h5, h6⟩ := h2
    exact ⟨e1, hB i q b e, h3, h4, o, h5, b.mono t h6⟩
/-- slots forgotten -/
theorem Env.less {Γ' : Gam} (E : Env m k Γ σ H) (hl : Γ'.length = Γ.length) (h : ∀ (i : Nat) (g : Ag), Γ'[i]? = some (some g) → Γ[i]? = some (some g)) : Env m k Γ' σ H :=
  ⟨E.inv, E.fr, E.sub, E.trk, E.ex, by rw [hl]; exact E.len, fun i g e => E.sl i g (h i g e)⟩
theorem get_set_none {Γ : Gam} {i j : Nat} {g : Ag} (h : (Γ.set i none)[j]? = some (some g)) : Γ[j]? = some (some g) ∧ j ≠ i := by
  rw [List.getElem?_set] at h
  split at h
  · split at h <;> cases h
  · exact ⟨h, fun e => by simp_all⟩
/-- a box made within is left behind -/
theorem Env.unadd (E : Env (m.add p) k Γ σ H) (hM : ∀ a, m.M a → m.A a) (hB : NoBox p Γ) : Env m k Γ σ H :=
  E.shrink (A' := m.A) (fun a h => .inl h) hM fun i q b e => by
    obtain ⟨v, _, _, h, _⟩ := E.sl i _ e
    rcases h with h | h
    · exact h
    · exact absurd h (hB i q b e)
def Md.sub (m : Md) (p : Addr) : Md := { m with A := fun a => m.A a ∧ a ≠ p }
/-- the box as data -/
theorem Env.read {i : Nat} (E : Env m k Γ σ H) (hi : Γ[i]? = some (some (.box p (bL ds)))) (hb : NoBox p (Γ.set i none)) : Env (m.sub p) k (Γ.set i (some (D (.list ds)))) σ H := by
  obtain ⟨v, hv, rfl, hAp, hMp, _, o, ho, xs, rfl, hx⟩ := E.sl i _ hi
  have E1 : Env m k (Γ.set i none) σ H := E.less (by rw [List.length_set]) fun j g e => (get_set_none e).1
  have E2 : Env (m.sub p) k (Γ.set i none) σ H := E1.shrink (A' := fun a => m.A a ∧ a ≠ p) (fun a h => h.1) (fun a h => ⟨E.sub a h, fun e => hMp (e ▸ h)⟩) fun j q b e => by
    obtain ⟨v, _, _, h, _⟩ := E1.sl j _ e
    exact ⟨h, hb j q b e⟩
  refine ⟨E2.inv, E2.fr, E2.sub, E2.trk, E2.ex, by rw [List.length_set]; exact E.len, fun j g e => ?_⟩
  by_cases hj : j = i
  · subst hj
    rw [List.getElem?_set] at e
    split at e
    · split at e
      · cases e
        refine ⟨_, hv, ?_⟩
        show Dq (fun a => m.A a ∧ a ≠ p) H (.ref p) (.list ds)
        exact .lst ho (fun z => z.2 rfl) (hx.to fun a o h n => ⟨h, fun z => n z.1⟩)
      · cases e
    · exact absurd rfl (by assumption)
  · have e' : (Γ.set i none)[j]? = some (some g) := by
      rw [List.getElem?_set_ne (fun z => hj z.symm)] at e ⊢
      exact e
    exact E2.sl j g e'
theorem EvT.read {i : Nat} {tt : TT} {P : Bool → Prop} (hi : Γ[i]? = some (some (.box p (bL ds)))) (hb : NoBox p (Γ.set i none)) (h : EvT (m.sub p) c tt (Γ.set i (some (D (.list ds)))) P) : EvT m c tt Γ P :=
  fun σ H E Q q => h σ H (E.read hi hb) Q fun b H' s pb => q b H' ⟨s.kp, s.inv⟩ pb
end
section
variable {X : Cx}
theorem k_isi (K : Frag) (hK : X.K = K := by rfl) : CallR X (.builtin "isinstance") (rIsi K) := hK ▸ call_isi
theorem k_tyN (n : String) {x : Str} {pos : Pos} (hg : Gl X x) (hm : X.mg x = none) (hv : bootBuiltins x = some (.type n)) (hn : x ≠ "__name__" := by decide) (hd : (x == ("__debug__" : Str)) = false := by decide) : PE X (.Name x pos) (tC (.ty n)) := pe_bltn hg hm hv rfl hn hd
end
section
variable {m : Md} {c ce : Nat} {Γ : Gam} {te : TE} {K : Frag} {ds : List PyData}
theorem ev_isiL (h : Ev m ce te Γ (D (.list ds))) : Ev m (ce + 0) (tCB (rIsi K) (tCons te (tCons (tC (.ty "list")) tNil))) Γ (D (.bool true)) := ev_isi h fun H v o => by
  have o' : Dq m.A H v (.list ds) := o
  cases o' with
  | lst e _ _ => exact ⟨.type "list", .base (.lst e), by rfl⟩
theorem ev_isiT (h : Ev m ce te Γ (D (.tuple ds))) : Ev m (ce + 0) (tCB (rIsi K) (tCons te (tCons (tC (.ty "tuple")) tNil))) Γ (D (.bool true)) := ev_isi h fun H v o => by
  have o' : Dq m.A H v (.tuple ds) := o
  cases o' with
  | tup e _ _ =>
    rcases e with e | ⟨_, _, e⟩
    · exact ⟨.type "tuple", .base (.tup e), by rfl⟩
    · exact ⟨.type "tuple", .fTuple e, by rfl⟩
end
end Lh

set_option Elab.async false
set_option linter.all false
set_option maxRecDepth 100000
set_option maxHeartbeats 2000000
/-! What expressions ask, over data alone. -/
namespace Vc
open PySem PySem.Spec PyProof.Rows L2 PySem.W Lh

/-- what a slot holds: nothing, the drawing's state, a datum, a list of its own -/
inductive AV where
  | no | st
  | d (x : PyData)
  | l (xs : List PyData)
  | m (kvs : List (L2.Key × PyData))
  | t (ps : List (Int × Int))
  | s (K : PySem.W.Frag) (n : Nat)
  /-- an instance that is being made -/
  | o (C : Addr) (ns : List Str) (ds : List PyData)
/-- a key that is a pair of ints -/
def keyP (p : Int × Int) : List L2.Key := [.inl p.1, .inl p.2]
/-- a dict whose keys are these pairs, under change -/
def bT (ps : List (Int × Int)) : Bx := ⟨fun A H o => ∃ kvs : List (List L2.Key × V), o = .dT kvs ∧ kvs.map Prod.fst = ps.map keyP, fun _ h => h⟩
/-- an instance of these fields, under change -/
def bI (C : Addr) (ns : List Str) (ds : List PyData) : Bx := ⟨fun A H o => ∃ (dx : Addr) (fs : List (Str × V)), o = .ins C dx fs ∧ fs.map Prod.fst = ns ∧ DqA A H (fs.map Prod.snd) ds, fun k ⟨dx, fs, e, h1, h2⟩ => ⟨dx, fs, e, h1, h2.to k⟩⟩
/-- a list of so many items -/
def isLen (K : PySem.W.Frag) (n : Nat) : Im := ⟨fun A H v => ∃ (a : Addr) (xs : List V), v = .ref a ∧ xs.length = n ∧ ((Rd H a (.lst xs) ∧ ¬ A a) ∨ ∃ (o : Obj) (its : Array Value) (n : Nat), K.lookup a = some o ∧ o.cls = .type "list" ∧ o.dict = none ∧ o.data = .seq its n ∧ its.size ≤ sizeLine ∧ Vals xs its.toList),
  fun k ⟨a, xs, e, l, h⟩ => ⟨a, xs, e, l, h.imp (fun ⟨r, n⟩ => To.rd k r n) id⟩⟩
/-- a dict of these, under change -/
def bM (kvs : List (L2.Key × PyData)) : Bx := ⟨fun A H o => ∃ kw : List (L2.Key × V), o = .dK kw ∧ kw.map Prod.fst = kvs.map Prod.fst ∧ DqA A H (kw.map Prod.snd) (kvs.map Prod.snd), fun k ⟨kw, e, h1, h2⟩ => ⟨kw, e, h1, h2.to k⟩⟩
abbrev Sg := List AV
/-- a state that is drawn from: where it stands, what of the heap is its own, what is true of it; cs: what constants of the top are -/
structure Stt where
  p : Addr
  cs : List (Addr × PyData)
  M : Addr → Prop
  /-- with what has been spent, at most B -/
  I : Nat → Hp → Prop
  B : Nat
  trk : ∀ {n : Nat} {H : Hp} {a : Addr}, I n H → M a → Tk (H a)
  keep : ∀ {n : Nat} {H H' : Hp}, I n H → (∀ a o, H a = some o → M a → H' a = some o) → I n H'
  up : ∀ {n n' : Nat} {H : Hp}, I n H → n ≤ n' → I n' H
  /-- the least that has been spent -/
  least : ∀ {n : Nat} {H : Hp}, I n H → ∃ n0, I n0 H ∧ n0 ≤ n ∧ ∀ n', I n' H → n0 ≤ n'
def Stt.nul (cs : List (Addr × PyData)) : Stt := ⟨0, cs, fun _ => False, fun _ _ => True, 0, fun _ h => h.elim, fun _ _ => trivial, fun _ _ => trivial, fun _ => ⟨0, trivial, Nat.zero_le _, fun _ _ => Nat.zero_le _⟩⟩
structure Ok (S : Stt) (m : Md) : Prop where
  hM : m.M = S.M
  hI : m.I = S.I
  ok : ∃ B, B ≤ S.B ∧ m.ok = fun n => n ≤ B
  cs : ∀ c ∈ S.cs, (V.ref c.1, isD c.2) ∈ m.X
theorem Ok.add {S : Stt} {m : Md} {q : Addr} (h : Ok S m) : Ok S (m.add q) := ⟨h.hM, h.hI, h.ok, h.cs⟩
theorem Ok.lt {S : Stt} {m : Md} {H : Hp} (h : Ok S m) : Ok S (m.lt H) := ⟨h.hM, h.hI, h.ok, fun c hc => List.mem_cons_of_mem _ (h.cs c hc)⟩
theorem Ok.del {S : Stt} {m : Md} {q : Addr} (h : Ok S m) : Ok S (m.del q) := ⟨h.hM, h.hI, h.ok, h.cs⟩
inductive MtA (p : Addr) : AV → Option Ag → Prop
  | no : MtA p .no none
  | st : MtA p .st (some (Vl (.ref p)))
  | d (x : PyData) : MtA p (.d x) (some (D x))
  | l (xs : List PyData) (q : Addr) : MtA p (.l xs) (some (.box q (bL xs)))
  | m (kvs : List (L2.Key × PyData)) (q : Addr) : MtA p (.m kvs) (some (.box q (bM kvs)))
  | t (ps : List (Int × Int)) (q : Addr) : MtA p (.t ps) (some (.box q (bT ps)))
  | s (K : PySem.W.Frag) (n : Nat) : MtA p (.s K n) (some (.im (isLen K n)))
  | o (C : Addr) (ns : List Str) (ds : List PyData) : MtA p (.o C ns ds) (some (.box p (bI C ns ds)))
structure Mt (p : Addr) (a : Sg) (Γ : Gam) : Prop where
  len : a.length = Γ.length
  at_ : ∀ (i : Nat) (x : AV), a[i]? = some x → ∃ o, Γ[i]? = some o ∧ MtA p x o
section
variable {p : Addr} {a : Sg} {Γ : Gam} {i : Nat} {x : PyData} {xs : List PyData}
theorem Mt.d (h : Mt p a Γ) (e : a[i]? = some (.d x)) : Γ[i]? = some (some (D x)) := by
  obtain ⟨o, h1, h2⟩ := h.at_ i _ e
  cases h2
  exact h1
theorem Mt.st (h : Mt p a Γ) (e : a[i]? = some .st) : Γ[i]? = some (some (Vl (.ref p))) := by
  obtain ⟨o, h1, h2⟩ := h.at_ i _ e
  cases h2
  exact h1
theorem Mt.l (h : Mt p a Γ) (e : a[i]? = some (.l xs)) : ∃ q, Γ[i]? = some (some (.box q (bL xs))) := by
  obtain ⟨o, h1, h2⟩ := h.at_ i _ e
  cases h2
  exact ⟨_, h1⟩
theorem Mt.m {kvs : List (L2.Key × PyData)} (h : Mt p a Γ) (e : a[i]? = some (.m kvs)) : ∃ q, Γ[i]? = some (some (.box q (bM kvs))) := by
  obtain ⟨o, h1, h2⟩ := h.at_ i _ e
  cases h2
  exact ⟨_, h1⟩
theorem Mt.t {ps : List (Int × Int)} (h : Mt p a Γ) (e : a[i]? = some (.t ps)) : ∃ q, Γ[i]? = some (some (.box q (bT ps))) := by
  obtain ⟨o, h1, h2⟩ := h.at_ i _ e
  cases h2
  exact ⟨_, h1⟩
theorem Mt.s {K : PySem.W.Frag} {n : Nat} (h : Mt p a Γ) (e : a[i]? = some (.s K n)) : Γ[i]? = some (some (.im (isLen K n))) := by
  obtain ⟨o, h1, h2⟩ := h.at_ i _ e
  cases h2
  exact h1
theorem Mt.o {C : Addr} {ns : List Str} {ds : List PyData} (h : Mt p a Γ) (e : a[i]? = some (.o C ns ds)) : Γ[i]? = some (some (.box p (bI C ns ds))) := by
  obtain ⟨o, h1, h2⟩ := h.at_ i _ e
  cases h2
  exact h1
theorem Mt.set (h : Mt p a Γ) {y : AV} {o : Option Ag} (k : MtA p y o) : Mt p (a.set i y) (Γ.set i o) := by
  refine ⟨by rw [List.length_set, List.length_set]; exact h.len, fun j z e => ?_⟩
  by_cases hj : i = j
  · subst hj
    by_cases hl : i < a.length
    · rw [List.getElem?_set_self hl] at e
      cases e
      exact ⟨o, by rw [List.getElem?_set_self (by rw [← h.len]; exact hl)], k⟩
    · rw [List.getElem?_eq_none (by rw [List.length_set]; omega)] at e
      cases e
  · rw [List.getElem?_set_ne hj] at e ⊢
    exact h.at_ j z e
end

abbrev AE := Sg → (PyData → Prop) → Prop
abbrev AL := Sg → (Bool → List PyData → Prop) → Prop
abbrev AN := Sg → (List PyData → Prop) → Prop
abbrev AT := Sg → (Bool → Prop) → Prop
/-- an expression's value is a datum -/
def EvW (S : Stt) (c : Nat) (te : TE) (ae : AE) : Prop := ∀ m Γ a Q, Ok S m → Mt S.p a Γ → ae a Q → Ev m c te Γ (U Q)
def sq : Bool → List V → HO
  | true, xs => .tup xs
  | false, xs => .lst xs
/-- a list of its own, or a tuple that is read -/
def sqAt (H : Hp) (b : Addr) : Bool → List V → Prop
  | true, xs => RdF H b xs
  | false, xs => H b = some (.lst xs)
theorem sqAt.kp {M : Addr → Prop} {H H' : Hp} {b : Addr} {t : Bool} {xs : List V} (h : sqAt H b t xs) (k : ∀ a o, H a = some o → ¬ M a → H' a = some o) (n : ¬ M b) : sqAt H' b t xs := by
  cases t with
  | false => exact k _ _ h n
  | true =>
    exact h.imp fun o e => k _ _ e n
structure Sq (m : Md) (H : Hp) (b : Addr) (t : Bool) (xs : List V) (ds : List PyData) : Prop where
  hb : sqAt H b t xs
  M : ¬ m.M b
  A : t = true → ¬ m.A b
  it : DqA m.A H xs ds
theorem Sq.step {m : Md} {c : Nat} {H H' : Hp} {b : Addr} {t : Bool} {xs : List V} {ds : List PyData} (h : Sq m H b t xs ds) (s : Stp m c H H') (hs : ∀ a, m.M a → m.A a) : Sq m H' b t xs ds := ⟨h.hb.kp s.kp h.M, h.M, h.A, h.it.to (s.to hs)⟩
/-- .. a list (false) or a tuple (true) that is read at once -/
def EvS (S : Stt) (c : Nat) (te : TE) (al : AL) : Prop := ∀ m Γ a Q, Ok S m → Mt S.p a Γ → al a Q → ∀ σ H, Env m c Γ σ H → ∀ R : VK,
  (∀ b t xs ds H', Stp m c H H' → Sq m H' b t xs ds → Q t ds → R (.ref b) H') → te σ H R
/-- .. a new list -/
def EvN (S : Stt) (c : Nat) (te : TE) (an : AN) : Prop := ∀ m Γ a Q, Ok S m → Mt S.p a Γ → an a Q → ∀ σ H, Env m c Γ σ H → ∀ R : VK,
  (∀ q xs ds H', Stp m c H H' → H q = none → H' q = some (.lst xs) → DqA (fun b => m.A b ∨ b = q) H' xs ds → Q ds → R (.ref q) H') → te σ H R
def EvB (S : Stt) (c : Nat) (tt : TT) (at_ : AT) : Prop := ∀ m Γ a Q, Ok S m → Mt S.p a Γ → at_ a Q → EvT m c tt Γ Q
/-- arguments: n says how many, if that is known -/
def EvAs (S : Stt) (c : Nat) (n : Option Nat) (ta : TA) (aa : AN) : Prop := ∀ m Γ a Q, Ok S m → Mt S.p a Γ → aa a Q → ∀ σ H, Env m c Γ σ H → ∀ R : List V → Hp → Prop,
  (∀ vs ds H', (∀ k, n = some k → ds.length = k) → Stp m c H H' → DqA m.A H' vs ds → Q ds → R vs H') → ta σ H R
structure PV (X : Cx) (S : Stt) (c : Nat) (e : Expr) (te : TE) (ae : AE) : Prop where
  pe : PE X e te
  ev : EvW S c te ae
structure PVS (X : Cx) (S : Stt) (c : Nat) (e : Expr) (te : TE) (al : AL) : Prop where
  pe : PE X e te
  ev : EvS S c te al
structure PVN (X : Cx) (S : Stt) (c : Nat) (e : Expr) (te : TE) (an : AN) : Prop where
  pe : PE X e te
  ev : EvN S c te an
structure PVT (X : Cx) (S : Stt) (c : Nat) (e : Expr) (tt : TT) (at_ : AT) : Prop where
  pe : PT X e tt
  ev : EvB S c tt at_
structure PVA (X : Cx) (S : Stt) (c : Nat) (n : Option Nat) (es : List Expr) (ta : TA) (aa : AN) : Prop where
  pe : PA X es ta
  ev : EvAs S c n ta aa

/-! ### slots, constants -/
def aV (i : Nat) : AE := fun a Q => match a[i]? with
  | some (.d x) => Q x
  | _ => False
def aS (i : Nat) : AL := fun a Q => match a[i]? with
  | some (.d (.list xs)) => Q false xs
  | some (.d (.tuple xs)) => Q true xs
  | some (.l xs) => Q false xs
  | _ => False
def aC (x : PyData) : AE := fun _ Q => Q x
/-- a list or tuple that is a datum -/
def aSE (ae : AE) : AL := fun a Q => ae a fun x => match x with
  | .list xs => Q false xs
  | .tuple xs => Q true xs
  | _ => False
/-- a new list is a datum -/
def aNE (an : AN) : AE := fun a Q => an a fun ds => Q (.list ds)
def aNS (an : AN) : AL := fun a Q => an a fun ds => Q false ds
section
variable {S : Stt} {te : TE} {ae : AE} {al : AL} {an : AN} {m : Md} {H H' : Hp} {v : V} {d : PyData} {ds : List PyData}
theorem tupD {A : Addr → Prop} {xs : List V} {b : Addr} {t : Bool} (h : sqAt H b t xs) (n : ¬ A b) (k : DqA A H xs ds) : Dq A H (.ref b) (if t then .tuple ds else .list ds) := by
  cases t with
  | true => exact .tup h n k
  | false => exact .lst h n k
theorem evw_v {i : Nat} : EvW S 0 (tVar i) (aV i) := fun m Γ a Q ok mt h => by
  unfold aV at h
  split at h
  · rename_i x e
    exact (ev_var (mt.d e)).toP h
  · exact h.elim
theorem evw_c {x : PyData} (s : Sc v x) : EvW S 0 (tC v) (aC x) := fun m Γ a Q ok mt h => (ev_c s).toP h
/-- a constant of the top that is an object -/
theorem evw_k {b : Addr} {x : PyData} (hc : (b, x) ∈ S.cs) : EvW S 0 (tC (.ref b)) (aC x) := fun m Γ a Q ok mt h σ H E R q => q _ H Stp.refl ⟨x, E.ex _ (ok.cs _ hc), h⟩
theorem evs_v {i : Nat} : EvS S 0 (tVar i) (aS i) := fun m Γ a Q ok mt h σ H E R q => by
  unfold aS at h
  split at h
  · rename_i x e
    obtain ⟨v, h1, h2⟩ := E.sl i _ (mt.d e)
    obtain ⟨b, xs, rfl, k1, k2, k3⟩ := Dq.list h2
    exact ⟨_, h1, q b false xs _ H Stp.refl ⟨k1, fun z => k2 (E.sub b z), fun z => (nomatch z), k3⟩ h⟩
  · rename_i x e
    obtain ⟨v, h1, h2⟩ := E.sl i _ (mt.d e)
    obtain ⟨b, xs, rfl, k1, k2, k3⟩ := Dq.tupleF h2
    exact ⟨_, h1, q b true xs _ H Stp.refl ⟨k1, fun z => k2 (E.sub b z), fun _ => k2, k3⟩ h⟩
  · rename_i x e
    obtain ⟨p, e⟩ := mt.l e
    obtain ⟨v, h1, rfl, k1, k2, k3, o, k4, xs, rfl, k5⟩ := E.sl i _ e
    exact ⟨_, h1, q p false xs _ H Stp.refl ⟨k4, k2, fun z => (nomatch z), k5⟩ h⟩
  · exact h.elim
theorem evs_e (h : EvW S c_te te ae) : EvS S c_te te (aSE ae) := fun m Γ a Q ok mt hh σ H E R q =>
  h m Γ a _ ok mt hh σ H E.le _ fun v H1 s ⟨d, o, k⟩ => by
    cases d with
    | list ds =>
      obtain ⟨b, xs, rfl, k1, k2, k3⟩ := Dq.list o
      exact q b false xs ds H1 s ⟨k1, fun z => k2 (E.sub b z), fun z => (nomatch z), k3⟩ k
    | tuple ds =>
      obtain ⟨b, xs, rfl, k1, k2, k3⟩ := Dq.tupleF o
      exact q b true xs ds H1 s ⟨k1, fun z => k2 (E.sub b z), fun _ => k2, k3⟩ k
    | _ => exact k.elim
theorem _root_.Lh.Stp.two {c : Nat} {H1 H2 : Hp} (s : Stp m c H H1) (k : ∀ b o, H1 b = some o → H2 b = some o) : Stp m c H H2 := (s.trans (Stp.ext k)).le
theorem evw_n (h : EvN S c_te te an) : EvW S c_te te (aNE an) := fun m Γ a Q ok mt hh σ H E R q =>
  h m Γ a _ ok mt hh σ H E.le _ fun p xs ds H2 s np hp ha k' =>
    q _ H2 s ⟨.list ds, .lst hp (Env.free E np) (ha.to fun b o e n => ⟨e, fun z => n (.inl z)⟩), k'⟩
theorem evs_n (h : EvN S c_te te an) : EvS S c_te te (aNS an) := fun m Γ a Q ok mt hh σ H E R q =>
  h m Γ a _ ok mt hh σ H E.le _ fun p xs ds H2 s np hp ha k' =>
    q p false xs ds H2 s ⟨hp, Env.freeM E np, fun z => (nomatch z), ha.to fun b o e n => ⟨e, fun z => n (.inl z)⟩⟩ k'
end
section
variable {X : Cx} {S : Stt} {e : Expr} {te : TE} {ae : AE} {al : AL} {an : AN} {pos : Pos}
theorem v (i : Nat) {x : Str} (hN : X.N[i]? = some x := by rfl) (hv : Vis X.env.scope x := by first | exact Or.inl rfl | exact Or.inr (Or.inl rfl) | exact Or.inr (Or.inr rfl)) (hd : (x == ("__debug__" : Str)) = false := by decide)
    (hcd : (x == ("__classdict__" : Str)) = false := by decide) : PV X S 0 (.Name x pos) (tVar i) (aV i) := ⟨pe_var hN hv hd hcd, evw_v⟩
theorem vs (i : Nat) {x : Str} (hN : X.N[i]? = some x := by rfl) (hv : Vis X.env.scope x := by first | exact Or.inl rfl | exact Or.inr (Or.inl rfl) | exact Or.inr (Or.inr rfl)) (hd : (x == ("__debug__" : Str)) = false := by decide)
    (hcd : (x == ("__classdict__" : Str)) = false := by decide) : PVS X S 0 (.Name x pos) (tVar i) (aS i) := ⟨pe_var hN hv hd hcd, evs_v⟩
theorem c_int {i : Int} {j : Nat} : PV X S 0 (.Constant (.int i) j pos) (tC (.int i)) (aC (.int i)) := ⟨pe_int, evw_c (.int _)⟩
theorem c_bl {i : Bool} {j : Nat} : PV X S 0 (.Constant (.bool i) j pos) (tC (.bl i)) (aC (.bool i)) := ⟨pe_bl, evw_c (.bl _)⟩
theorem c_str {i : Str} {j : Nat} : PV X S 0 (.Constant (.str i) j pos) (tC (.str i)) (aC (.str i)) := ⟨pe_str, evw_c (.str _)⟩
theorem c_non {j : Nat} : PV X S 0 (.Constant .none j pos) (tC .non) (aC .none) := ⟨pe_non, evw_c .non⟩
/-- a constant of the top -/
theorem glob {x : Str} {w : V} {u : Value} {d : PyData} (sc : Sc w d) (hg : Gl X x) (hm : X.mg x = some u) (r : RelV w u) (hd : (x == ("__debug__" : Str)) = false := by decide) : PV X S 0 (.Name x pos) (tC w) (aC d) := ⟨pe_glob hg hm r hd, evw_c sc⟩
theorem globK {x : Str} {b : Addr} {d : PyData} (hc : (b, d) ∈ S.cs) (hg : Gl X x) (hm : X.mg x = some (.ref b)) (hd : (x == ("__debug__" : Str)) = false := by decide) : PV X S 0 (.Name x pos) (tC (.ref b)) (aC d) := ⟨pe_glob hg hm rfl hd, evw_k hc⟩
theorem s_e (h : PV X S c_te e te ae) : PVS X S c_te e te (aSE ae) := ⟨h.pe, evs_e h.ev⟩
theorem s_n (h : PVN X S c_te e te an) : PVS X S c_te e te (aNS an) := ⟨h.pe, evs_n h.ev⟩
theorem w_n (h : PVN X S c_te e te an) : PV X S c_te e te (aNE an) := ⟨h.pe, evw_n h.ev⟩
end

/-! ### operations -/
def aOp (g : PyData → PyData → (PyData → Prop) → Prop) (fa fb : AE) : AE := fun a Q => fa a fun x => fb a fun y => g x y Q
def aUn (g : PyData → (PyData → Prop) → Prop) (fa : AE) : AE := fun a Q => fa a fun x => g x Q
def gI (f : Int → Int → PyData) : PyData → PyData → (PyData → Prop) → Prop := fun x y Q => match x, y with
  | .int i, .int j => Q (f i j)
  | _, _ => False
def gC (C : Int → Int → Prop) (f : Int → Int → PyData) : PyData → PyData → (PyData → Prop) → Prop := fun x y Q => match x, y with
  | .int i, .int j => C i j ∧ Q (f i j)
  | _, _ => False
def gU (f : Int → PyData) : PyData → (PyData → Prop) → Prop := fun x Q => match x with
  | .int i => Q (f i)
  | _ => False
section
variable {S : Stt} {ta tb tc : TE} {fa fb fc : AE} {r r' : R2} {g g' : PyData → PyData → (PyData → Prop) → Prop}
/-- a two-place operation is what g says of data -/
def OpD (S : Stt) (r : R2) (g : PyData → PyData → (PyData → Prop) → Prop) : Prop := ∀ {m : Md} {Γ : Gam} {σ : L2.St} {H : Hp} {x y : V} {dx dy : PyData} {Q : PyData → Prop} {R : VK}, Ok S m → Env m 0 Γ σ H → Dq m.A H x dx → Dq m.A H y dy → g dx dy Q →
  (∀ v H' d, Stp m 0 H H' → Dq m.A H' v d → Q d → R v H') → r x y H R
theorem evw_op (hr : OpD S r g) (ha : EvW S c_ta ta fa) (hb : EvW S c_tb tb fb) : EvW S (c_ta + c_tb) (tOp r ta tb) (aOp g fa fb) := fun m Γ a Q ok mt h σ H E R q =>
  ha m Γ a _ ok mt h σ H E.le _ fun x H1 s1 ⟨dx, ox, h1⟩ => hb m Γ a _ ok mt h1 σ H1 (E.step s1) _ fun y H2 s2 ⟨dy, oy, h2⟩ =>
    hr ok (E.step (s1.trans s2)) (ox.to (s2.to E.sub)) oy h2 fun v H3 d s3 o k => q v H3 ((s1.trans s2).trans s3).le ⟨d, o, k⟩
theorem opd_I {f : Int → Int → V} {f' : Int → Int → PyData} (h : ∀ i j, Sc (f i j) (f' i j)) : OpD S (rI0 f) (gI f') := fun {m Γ σ H x y dx dy Q R} ok E ox oy k q => by
  unfold gI at k
  split at k
  · cases ox
    cases oy
    exact ⟨_, _, rfl, rfl, q _ H _ Stp.refl (h _ _).dq k⟩
  · exact k.elim
theorem opd_C {C : Int → Int → Prop} {f : Int → Int → V} {f' : Int → Int → PyData} (h : ∀ i j, Sc (f i j) (f' i j)) : OpD S (rI C f) (gC C f') := fun {m Γ σ H x y dx dy Q R} ok E ox oy k q => by
  unfold gC at k
  split at k
  · cases ox
    cases oy
    exact ⟨_, _, rfl, rfl, k.1, q _ H _ Stp.refl (h _ _).dq k.2⟩
  · exact k.elim
theorem evw_un {f : Int → V} {f' : Int → PyData} (h : ∀ i, Sc (f i) (f' i)) (ha : EvW S c_ta ta fa) : EvW S c_ta (tUn (rU f) ta) (aUn (gU f') fa) := fun m Γ a Q ok mt hh σ H E R q =>
  ha m Γ a _ ok mt hh σ H E.le _ fun x H1 s1 ⟨dx, ox, h1⟩ => by
    have h1' : gU f' dx Q := h1
    unfold gU at h1'
    cases dx with
    | int i =>
      cases ox
      exact ⟨_, rfl, q _ H1 s1 ⟨_, (h _).dq, h1'⟩⟩
    | _ => exact h1'.elim
end
abbrev gAdd := gI fun i j => .int (i + j)
abbrev gSub := gI fun i j => .int (i - j)
abbrev gMul := gC CMul fun i j => .int (i * j)
abbrev gMulX := gC CMulX fun i j => .int (i * j)
abbrev gDiv := gC CDivN fun i j => .int (i.fdiv j)
abbrev gDivW := gC CDivW fun i j => .int (i / j)
abbrev gMod := gC (fun _ j => j ≠ 0) fun i j => .int (i.fmod j)
abbrev gPow := gC CPow fun i j => .int (i ^ j.toNat)
abbrev gLt := gI fun i j => .bool (decide (i < j))
abbrev gLe := gI fun i j => .bool (decide (i ≤ j))
abbrev gGt := gI fun i j => .bool (decide (j < i))
abbrev gGe := gI fun i j => .bool (decide (j ≤ i))
def gAddS : PyData → PyData → (PyData → Prop) → Prop := fun x y Q => match x, y with
  | .str i, .str j => i.length + j.length ≤ sizeLine ∧ Q (.str (i ++ j))
  | _, _ => False
def gInS (n : Bool) : PyData → PyData → (PyData → Prop) → Prop := fun x y Q => match x, y with
  | .str i, .str j => Q (.bool (n.xor (!(Builtin.Str.occurrences j i 0 j.length 1).isEmpty)))
  | _, _ => False
/-- typed == -/
def gEq (n : Bool) : PyData → PyData → (PyData → Prop) → Prop := fun x y Q =>
  (∃ (α : Type) (_ : DecidableEq α) (_ : Datum α) (a b : α), x = Datum.toD a ∧ y = Datum.toD b ∧ Datum.depth α ≤ 32 ∧ Q (.bool (n.xor (decide (a = b)))))
/-- == of any shaped data -/
def gEqD (n : Bool) : PyData → PyData → (PyData → Prop) → Prop := fun x y Q => SeqAt.shaped x = true ∧ SeqAt.shaped y = true ∧ Q (.bool (n.xor (PyData.eqv x y)))
def gLtX (f : Bool → Bool → Bool) : PyData → PyData → (PyData → Prop) → Prop := fun x y Q =>
  (∃ (α : Type) (_ : DecidableEq α) (_ : DatumOrd α) (a b : α), x = Datum.toD a ∧ y = Datum.toD b ∧ Datum.depth α ≤ 32 ∧ Q (.bool (f (DatumOrd.lt a b) (DatumOrd.lt b a))))
def isNon : PyData → Bool
  | .none => true
  | _ => false
def gIsN (n : Bool) : PyData → PyData → (PyData → Prop) → Prop := fun x y Q => match y with
  | .none => Q (.bool (n.xor (isNon x)))
  | _ => False
section
variable {S : Stt} {K : Frag}
theorem opd_addS : OpD S (fun x y H Q => ∃ i j, x = .str i ∧ y = .str j ∧ i.length + j.length ≤ sizeLine ∧ Q (.str (i ++ j)) H) gAddS := fun {m Γ σ H x y dx dy Q R} ok E ox oy k q => by
  unfold gAddS at k
  split at k
  · cases ox
    cases oy
    exact ⟨_, _, rfl, rfl, k.1, q _ H _ Stp.refl (.str _) k.2⟩
  · exact k.elim
theorem opd_inS : OpD S (fun x y H Q => ∃ i j, x = .str i ∧ y = .str j ∧ Q (.bl (!(Builtin.Str.occurrences j i 0 j.length 1).isEmpty)) H) (gInS false) := fun {m Γ σ H x y dx dy Q R} ok E ox oy k q => by
  unfold gInS at k
  split at k
  · cases ox
    cases oy
    exact ⟨_, _, rfl, rfl, q _ H _ Stp.refl (by rw [Bool.false_xor]; exact .bl _) k⟩
  · exact k.elim
theorem opd_notInS : OpD S (fun x y H Q => ∃ i j, x = .str i ∧ y = .str j ∧ Q (.bl (!(!(Builtin.Str.occurrences j i 0 j.length 1).isEmpty))) H) (gInS true) := fun {m Γ σ H x y dx dy Q R} ok E ox oy k q => by
  unfold gInS at k
  split at k
  · cases ox
    cases oy
    exact ⟨_, _, rfl, rfl, q _ H _ Stp.refl (by rw [Bool.true_xor]; exact .bl _) k⟩
  · exact k.elim
theorem opd_eq : OpD S (rEqX K) (gEq false) := fun {m Γ σ H x y dx dy Q R} ok E ox oy ⟨α, i1, i2, a, b, e1, e2, hd, k⟩ q => by
  subst e1 e2
  exact ⟨α, i1, i2, a, b, Dq.dp K (Datum.plain _) ox, Dq.dp K (Datum.plain _) oy, hd, q _ H _ Stp.refl (by rw [Bool.false_xor]; exact .bl _) k⟩
theorem opd_ne : OpD S (rNeX K) (gEq true) := fun {m Γ σ H x y dx dy Q R} ok E ox oy ⟨α, i1, i2, a, b, e1, e2, hd, k⟩ q => by
  subst e1 e2
  refine ⟨α, i1, i2, a, b, Dq.dp K (Datum.plain _) ox, Dq.dp K (Datum.plain _) oy, hd, q _ H _ Stp.refl ?_ k⟩
  rw [Bool.true_xor, show (decide (a ≠ b)) = !decide (a = b) from decide_not]
  exact .bl _
theorem opd_eqD : OpD S (rEqD K) (gEqD false) := fun {m Γ σ H x y dx dy Q R} ok E ox oy ⟨s1, s2, k⟩ q =>
  ⟨_, _, Dq.dp K (plain_sh s1) ox, Dq.dp K (plain_sh s2) oy, s1, s2, q _ H _ Stp.refl (by rw [Bool.false_xor]; exact .bl _) k⟩
theorem opd_neD : OpD S (rNeD K) (gEqD true) := fun {m Γ σ H x y dx dy Q R} ok E ox oy ⟨s1, s2, k⟩ q =>
  ⟨_, _, Dq.dp K (plain_sh s1) ox, Dq.dp K (plain_sh s2) oy, s1, s2, q _ H _ Stp.refl (by rw [Bool.true_xor]; exact .bl _) k⟩
theorem opd_ltX {f : Bool → Bool → Bool} : OpD S (rLtX K f) (gLtX f) := fun {m Γ σ H x y dx dy Q R} ok E ox oy ⟨α, i1, i2, a, b, e1, e2, hd, k⟩ q => by
  subst e1 e2
  exact ⟨α, i1, i2, a, b, Dq.dp K (Datum.plain _) ox, Dq.dp K (Datum.plain _) oy, hd, q _ H _ Stp.refl (.bl _) k⟩
theorem isnon {A : Addr → Prop} {H : Hp} {x : V} {d : PyData} (o : Dq A H x d) : decide (x = .non) = isNon d := by cases o <;> rfl
theorem opd_isN : OpD S (fun x y H Q => y = .non ∧ Q (.bl (decide (x = .non))) H) (gIsN false) := fun {m Γ σ H x y dx dy Q R} ok E ox oy k q => by
  unfold gIsN at k
  split at k
  · cases oy
    refine ⟨rfl, q _ H _ Stp.refl ?_ k⟩
    rw [Bool.false_xor, isnon ox]
    exact .bl _
  · exact k.elim
theorem opd_notN : OpD S (fun x y H Q => y = .non ∧ Q (.bl (!decide (x = .non))) H) (gIsN true) := fun {m Γ σ H x y dx dy Q R} ok E ox oy k q => by
  unfold gIsN at k
  split at k
  · cases oy
    refine ⟨rfl, q _ H _ Stp.refl ?_ k⟩
    rw [Bool.true_xor, isnon ox]
    exact .bl _
  · exact k.elim
end
end Vc

set_option Elab.async false
set_option linter.all false
set_option maxRecDepth 100000
set_option maxHeartbeats 2000000
/-! Tests, displays, what reads lists and tuples, calls. -/
namespace Vc
open PySem PySem.Spec PyProof.Rows L2 PySem.W Lh

section
variable {X : Cx} {S : Stt} {a b c : Expr} {ta tb tc : TE} {fa fb fc : AE} {pos : Pos} {r r' : R2} {g g' : PyData → PyData → (PyData → Prop) → Prop}
theorem bin {op : Operator} (ho : OpR X (binaryOp op) r) (hd : OpD S r g) (ha : PV X S c_ta a ta fa) (hb : PV X S c_tb b tb fb) : PV X S (c_ta + c_tb) (.BinOp a op b pos) (tOp r ta tb) (aOp g fa fb) := ⟨pe_op ho ha.pe hb.pe, evw_op hd ha.ev hb.ev⟩
theorem cmp {op : CmpOp} (ho : OpR X (compareOp op) r) (hd : OpD S r g) (ha : PV X S c_ta a ta fa) (hb : PV X S c_tb b tb fb) (hm : behindInMarks op b = false := by first | exact nomark _ | rfl) : PV X S (c_ta + c_tb) (.Compare a [op] [b] pos) (tOp r ta tb) (aOp g fa fb) := ⟨pe_cmpR ho ha.pe hb.pe hm, evw_op hd ha.ev hb.ev⟩

/-! ### truths as values -/
def aAnd (fa fb : AE) : AE := fun a Q => fa a fun x => match x with
  | .bool c => (c = true → fb a Q) ∧ (c = false → Q (.bool false))
  | _ => False
def aOr (fa fb : AE) : AE := fun a Q => fa a fun x => match x with
  | .bool c => (c = true → Q (.bool true)) ∧ (c = false → fb a Q)
  | _ => False
def aNot (fa : AE) : AE := fun a Q => fa a fun x => match x with
  | .bool c => Q (.bool (!c))
  | _ => False
def aIf (at_ : AT) (fa fb : AE) : AE := fun a Q => at_ a fun b => (b = true → fa a Q) ∧ (b = false → fb a Q)
def aChain (g g' : PyData → PyData → (PyData → Prop) → Prop) (fa fb fc : AE) : AE := fun a Q => fa a fun x => fb a fun y => g x y fun z => match z with
  | .bool k => (k = true → fc a fun w => g' y w Q) ∧ (k = false → Q (.bool false))
  | _ => False
theorem evw_and (ha : EvW S c_ta ta fa) (hb : EvW S c_tb tb fb) : EvW S (c_ta + c_tb) (tAndV ta tb) (aAnd fa fb) := fun m Γ a Q ok mt h σ H E R q =>
  ha m Γ a _ ok mt h σ H E.le _ fun x H1 s1 ⟨d, o, k⟩ => by
    cases d with
    | bool c =>
      cases o
      refine ⟨c, rfl, ?_⟩
      cases c with
      | true => exact (if_pos rfl).mpr (hb m Γ a Q ok mt (k.1 rfl) σ H1 (E.step s1) R fun v H2 s2 z => q v H2 (s1.trans s2).le z)
      | false => exact (if_neg Bool.false_ne_true).mpr (q _ H1 s1.le ⟨_, .bl _, k.2 rfl⟩)
    | _ => exact k.elim
theorem evw_or (ha : EvW S c_ta ta fa) (hb : EvW S c_tb tb fb) : EvW S (c_ta + c_tb) (tOrV ta tb) (aOr fa fb) := fun m Γ a Q ok mt h σ H E R q =>
  ha m Γ a _ ok mt h σ H E.le _ fun x H1 s1 ⟨d, o, k⟩ => by
    cases d with
    | bool c =>
      cases o
      refine ⟨c, rfl, ?_⟩
      cases c with
      | true => exact (if_pos rfl).mpr (q _ H1 s1.le ⟨_, .bl _, k.1 rfl⟩)
      | false => exact (if_neg Bool.false_ne_true).mpr (hb m Γ a Q ok mt (k.2 rfl) σ H1 (E.step s1) R fun v H2 s2 z => q v H2 (s1.trans s2).le z)
    | _ => exact k.elim
theorem evw_not (ha : EvW S c_ta ta fa) : EvW S c_ta (tNotV ta) (aNot fa) := fun m Γ a Q ok mt h σ H E R q =>
  ha m Γ a _ ok mt h σ H E.le _ fun x H1 s1 ⟨d, o, k⟩ => by
    cases d with
    | bool c =>
      cases o
      exact ⟨c, rfl, q _ H1 s1 ⟨_, .bl _, k⟩⟩
    | _ => exact k.elim
theorem evw_if {tt : TT} {at_ : AT} (ht : EvB S c_tt tt at_) (ha : EvW S c_ta ta fa) (hb : EvW S c_tb tb fb) : EvW S (c_tt + c_ta + c_tb) (tIf tt ta tb) (aIf at_ fa fb) := fun m Γ a Q ok mt h σ H E R q =>
  ht m Γ a _ ok mt h σ H E.le _ fun c H1 s1 k => by
    cases c with
    | true => exact (if_pos rfl).mpr (ha m Γ a Q ok mt (k.1 rfl) σ H1 (E.step s1) R fun v H2 s2 z => q v H2 (s1.trans s2).le z)
    | false => exact (if_neg Bool.false_ne_true).mpr (hb m Γ a Q ok mt (k.2 rfl) σ H1 (E.step s1) R fun v H2 s2 z => q v H2 (s1.trans s2).le z)
theorem evw_chain (hr : OpD S r g) (hr' : OpD S r' g') (ha : EvW S c_ta ta fa) (hb : EvW S c_tb tb fb) (hc : EvW S c_tc tc fc) : EvW S (c_ta + c_tb + c_tc) (tChain r r' ta tb tc) (aChain g g' fa fb fc) := fun m Γ a Q ok mt h σ H E R q =>
  ha m Γ a _ ok mt h σ H E.le _ fun x H1 s1 ⟨dx, ox, h1⟩ => hb m Γ a _ ok mt h1 σ H1 (E.step s1) _ fun y H2 s2 ⟨dy, oy, h2⟩ =>
    hr ok (E.step (s1.trans s2)) (ox.to (s2.to E.sub)) oy h2 fun z H3 d s3 o k => by
      cases d with
      | bool c =>
        cases o
        refine ⟨c, rfl, ?_⟩
        cases c with
        | true =>
          refine (if_pos rfl).mpr (hc m Γ a _ ok mt (k.1 rfl) σ H3 (E.step ((s1.trans s2).trans s3)) _ fun w H4 s4 ⟨dw, ow, h4⟩ => ?_)
          exact hr' ok (E.step (((s1.trans s2).trans s3).trans s4)) (oy.to ((s3.trans s4).to E.sub)) ow h4 fun v H5 d5 s5 o5 k5 => q v H5 ((((s1.trans s2).trans s3).trans s4).trans s5).le ⟨d5, o5, k5⟩
        | false => exact (if_neg Bool.false_ne_true).mpr (q _ H3 ((s1.trans s2).trans s3).le ⟨_, .bl _, k.2 rfl⟩)
      | _ => exact k.elim
theorem v_one {op : BoolOp} (h : PV X S c_ta a ta fa) : PV X S c_ta (.BoolOp op [a] pos) ta fa := ⟨pe_one h.pe, h.ev⟩
theorem v_and {rest : List Expr} (ha : PV X S c_ta a ta fa) (hb : PV X S c_tb (.BoolOp .And (b :: rest) pos) tb fb) : PV X S (c_ta + c_tb) (.BoolOp .And (a :: b :: rest) pos) (tAndV ta tb) (aAnd fa fb) := ⟨pe_and ha.pe hb.pe, evw_and ha.ev hb.ev⟩
theorem v_or {rest : List Expr} (ha : PV X S c_ta a ta fa) (hb : PV X S c_tb (.BoolOp .Or (b :: rest) pos) tb fb) : PV X S (c_ta + c_tb) (.BoolOp .Or (a :: b :: rest) pos) (tOrV ta tb) (aOr fa fb) := ⟨pe_or ha.pe hb.pe, evw_or ha.ev hb.ev⟩
theorem v_not (ha : PV X S c_ta a ta fa) : PV X S c_ta (.UnaryOp .Not a pos) (tNotV ta) (aNot fa) := ⟨pe_not ha.pe, evw_not ha.ev⟩
theorem v_if {tt : TT} {at_ : AT} (ht : PVT X S c_tt c tt at_) (ha : PV X S c_ta a ta fa) (hb : PV X S c_tb b tb fb) : PV X S (c_tt + c_ta + c_tb) (.IfExp c a b pos) (tIf tt ta tb) (aIf at_ fa fb) := ⟨pe_ifExp ht.pe ha.pe hb.pe, evw_if ht.ev ha.ev hb.ev⟩
theorem v_chain {op op' : CmpOp} (ho : OpR X (compareOp op) r) (ho' : OpR X (compareOp op') r') (hd : OpD S r g) (hd' : OpD S r' g') (ha : PV X S c_ta a ta fa) (hb : PV X S c_tb b tb fb) (hc : PV X S c_tc c tc fc)
    (hm : lastMarks [op, op'] [b, c] = false := by with_unfolding_all rfl) : PV X S (c_ta + c_tb + c_tc) (.Compare a [op, op'] [b, c] pos) (tChain r r' ta tb tc) (aChain g g' fa fb fc) := ⟨pe_chain ho ho' ha.pe hb.pe hc.pe hm, evw_chain hd hd' ha.ev hb.ev hc.ev⟩

/-! ### tests -/
def aT (fa : AE) : AT := fun a Q => fa a fun x => match x with
  | .bool b => Q b
  | _ => False
def aTAnd (t u : AT) : AT := fun a Q => t a fun b => (b = true → u a Q) ∧ (b = false → Q false)
def aTOr (t u : AT) : AT := fun a Q => t a fun b => (b = true → Q true) ∧ (b = false → u a Q)
def aTNot (t : AT) : AT := fun a Q => t a fun b => Q (!b)
theorem evb_test (h : EvW S c_ta ta fa) : EvB S c_ta (tTest ta) (aT fa) := fun m Γ a Q ok mt hh σ H E R q =>
  h m Γ a _ ok mt hh σ H E.le _ fun x H1 s ⟨d, o, k⟩ => by
    cases d with
    | bool b =>
      cases o
      exact ⟨b, rfl, q b H1 s k⟩
    | _ => exact k.elim
theorem evb_B (h : EvW S c_ta ta fa) : EvB S c_ta (tB ta) (aT fa) := fun m Γ a Q ok mt hh σ H E R q =>
  h m Γ a _ ok mt hh σ H E.le _ fun x H1 s ⟨d, o, k⟩ => by
    cases d with
    | bool b =>
      cases o
      exact ⟨b, rfl, q b H1 s k⟩
    | _ => exact k.elim
variable {tt tu : TT} {at1 at2 : AT}
theorem evb_and (h1 : EvB S c_tt tt at1) (h2 : EvB S c_tu tu at2) : EvB S (c_tt + c_tu) (tAnd tt tu) (aTAnd at1 at2) := fun m Γ a Q ok mt hh σ H E R q =>
  h1 m Γ a _ ok mt hh σ H E.le _ fun b H1 s k => by
    cases b with
    | true => exact (if_pos rfl).mpr (h2 m Γ a Q ok mt (k.1 rfl) σ H1 (E.step s) R fun b H2 s2 z => q b H2 (s.trans s2).le z)
    | false => exact (if_neg Bool.false_ne_true).mpr (q false H1 s.le (k.2 rfl))
theorem evb_or (h1 : EvB S c_tt tt at1) (h2 : EvB S c_tu tu at2) : EvB S (c_tt + c_tu) (tOr tt tu) (aTOr at1 at2) := fun m Γ a Q ok mt hh σ H E R q =>
  h1 m Γ a _ ok mt hh σ H E.le _ fun b H1 s k => by
    cases b with
    | true => exact (if_pos rfl).mpr (q true H1 s.le (k.1 rfl))
    | false => exact (if_neg Bool.false_ne_true).mpr (h2 m Γ a Q ok mt (k.2 rfl) σ H1 (E.step s) R fun b H2 s2 z => q b H2 (s.trans s2).le z)
theorem evb_not (h1 : EvB S c_tt tt at1) : EvB S c_tt (tNot tt) (aTNot at1) := fun m Γ a Q ok mt hh σ H E R q =>
  h1 m Γ a _ ok mt hh σ H E.le _ fun b H1 s k => q (!b) H1 s k
theorem t_val (h : PV X S c_ta a ta fa) (he : ∀ whole, isTrue a X.env whole = (do let v ← whole; standAt a.pos; holding [v] (truthy v)) := by intro _; rfl) : PVT X S c_ta a (tB ta) (aT fa) := ⟨pt_val h.pe he, evb_B h.ev⟩
theorem t_cmp {op : CmpOp} (ho : OpR X (compareOp op) r) (hd : OpD S r g) (ha : PV X S c_ta a ta fa) (hb : PV X S c_tb b tb fb) (hm : behindInMarks op b = false := by first | exact nomark _ | rfl) : PVT X S (c_ta + c_tb) (.Compare a [op] [b] pos) (tTest (tOp r ta tb)) (aT (aOp g fa fb)) := ⟨pt_cmpR ho ha.pe hb.pe hm, evb_test (evw_op hd ha.ev hb.ev)⟩
theorem t_chain {op op' : CmpOp} (ho : OpR X (compareOp op) r) (ho' : OpR X (compareOp op') r') (hd : OpD S r g) (hd' : OpD S r' g') (ha : PV X S c_ta a ta fa) (hb : PV X S c_tb b tb fb) (hc : PV X S c_tc c tc fc)
    (hm : lastMarks [op, op'] [b, c] = false := by with_unfolding_all rfl) : PVT X S (c_ta + c_tb + c_tc) (.Compare a [op, op'] [b, c] pos) (tTest (tChain r r' ta tb tc)) (aT (aChain g g' fa fb fc)) := ⟨pt_chain ho ho' ha.pe hb.pe hc.pe hm, evb_test (evw_chain hd hd' ha.ev hb.ev hc.ev)⟩
/-- a test of several parts, and, or -/
structure PVW (X : Cx) (S : Stt) (c : Nat) (e : Expr) (tt : TT) (at_ : AT) : Prop where
  pe : PW X e tt
  ev : EvB S c tt at_
theorem PVW.t (h : PVW X S c_tt a tt at1) : PVT X S c_tt a tt at1 := ⟨h.pe.pt, h.ev⟩
theorem w_and1 (h : PVT X S c_tt a tt at1) : PVW X S c_tt (.BoolOp .And [a] pos) tt at1 := ⟨pw_and1 h.pe, h.ev⟩
theorem w_or1 (h : PVT X S c_tt a tt at1) : PVW X S c_tt (.BoolOp .Or [a] pos) tt at1 := ⟨pw_or1 h.pe, h.ev⟩
theorem w_and {rest : List Expr} (h1 : PVT X S c_tt a tt at1) (h2 : PVW X S c_tu (.BoolOp .And (b :: rest) pos) tu at2) : PVW X S (c_tt + c_tu) (.BoolOp .And (a :: b :: rest) pos) (tAnd tt tu) (aTAnd at1 at2) := ⟨pw_and h1.pe h2.pe, evb_and h1.ev h2.ev⟩
theorem w_or {rest : List Expr} (h1 : PVT X S c_tt a tt at1) (h2 : PVW X S c_tu (.BoolOp .Or (b :: rest) pos) tu at2) : PVW X S (c_tt + c_tu) (.BoolOp .Or (a :: b :: rest) pos) (tOr tt tu) (aTOr at1 at2) := ⟨pw_or h1.pe h2.pe, evb_or h1.ev h2.ev⟩
theorem t_not (h1 : PVT X S c_tt a tt at1) : PVT X S c_tt (.UnaryOp .Not a pos) (tNot tt) (aTNot at1) := ⟨pt_not h1.pe, evb_not h1.ev⟩
end

/-! ### arguments, displays -/
def aNil : AN := fun _ Q => Q []
def aCons (fa : AE) (fr : AN) : AN := fun a Q => fa a fun x => fr a fun xs => Q (x :: xs)
def aStar (fl : AL) (fr : AN) : AN := fun a Q => fl a fun _ xs => fr a fun ys => Q (xs ++ ys)
/-- a tuple's display -/
def aTup (aa : AN) : AE := fun a Q => aa a fun ds => Q (.tuple ds)
def aTupX (aa : AN) : AE := fun a Q => aa a fun ds => ds.length ≤ sizeLine ∧ Q (.tuple ds)
def aLstX (aa : AN) : AN := fun a Q => aa a fun ds => ds.length ≤ sizeLine ∧ Q ds
section
variable {X : Cx} {S : Stt} {e : Expr} {es : List Expr} {te : TE} {t : TA} {fe : AE} {fl : AL} {aa : AN} {pos : Pos} {n : Option Nat} {k : Nat}
theorem evas_nil : EvAs S 0 (some 0) tNil aNil := fun m Γ a Q ok mt h σ H E R q => q [] [] H (fun _ e => Option.some.inj e) Stp.refl .nil h
theorem evas_cons (ha : EvW S c_te te fe) (hr : EvAs S c_t n t aa) : EvAs S (c_te + c_t) (n.map (· + 1)) (tCons te t) (aCons fe aa) := fun m Γ a Q ok mt h σ H E R q =>
  ha m Γ a _ ok mt h σ H E.le _ fun x H1 s1 ⟨d, o, k⟩ => hr m Γ a _ ok mt k σ H1 (E.step s1) _ fun vs ds H2 hn s2 o2 k2 => q _ _ H2 (fun k e => by
    cases n with
    | none => cases e
    | some j =>
      have := hn j rfl
      have e' : j + 1 = k := Option.some.inj e
      rw [List.length_cons]
      omega) (s1.trans s2).le (.cons (o.to (s2.to E.sub)) o2) k2
theorem evas_star {K : Frag} (ha : EvS S c_te te fl) (hr : EvAs S c_t n t aa) : EvAs S (c_te + c_t) none (StX.tStar K te t) (aStar fl aa) := fun m Γ a Q ok mt h σ H E R q =>
  ha m Γ a _ ok mt h σ H E.le _ fun b tp xs ds H1 s1 o k => by
    refine ⟨b, xs, rfl, ?_, hr m Γ a _ ok mt k σ H1 (E.step s1) _ fun vs es H2 _ s2 o2 k2 => q _ _ H2 (fun k e => by cases e) (s1.trans s2).le ((o.it.to (s2.to E.sub)).append o2) k2⟩
    cases tp with
    | true => exact .inl (.inl (RdF.rd o.hb))
    | false => exact .inr (.inl (.inl o.hb))
theorem a_nil : PVA X S 0 (some 0) [] tNil aNil := ⟨pa_nil, evas_nil⟩
theorem a_cons (ha : PV X S c_te e te fe) (hr : PVA X S c_t n es t aa) (hs : starEach (e :: es) X.env = (false, eval e X.env) :: starEach es X.env := by rfl) : PVA X S (c_te + c_t) (n.map (· + 1)) (e :: es) (tCons te t) (aCons fe aa) := ⟨pa_cons ha.pe hr.pe hs, evas_cons ha.ev hr.ev⟩
theorem a_star (K : Frag) {p : Pos} (ha : PVS X S c_te e te fl) (hr : PVA X S c_t n es t aa) (hs : starEach (.Starred e p :: es) X.env = (true, eval e X.env) :: starEach es X.env := by rfl) (hK : X.K = K := by rfl) : PVA X S (c_te + c_t) none (.Starred e p :: es) (StX.tStar K te t) (aStar fl aa) := ⟨k_star K ha.pe hr.pe hs hK, evas_star ha.ev hr.ev⟩
theorem len_line (h : k ≤ 1000) : k ≤ sizeLine := Nat.le_trans h (by decide)
theorem evw_tup (h : EvAs S c_t (some k) t aa) (hk : k ≤ 1000) : EvW S c_t (tTup t) (aTup aa) := fun m Γ a Q ok mt hh σ H E R q =>
  h m Γ a _ ok mt hh σ H E.le _ fun xs ds H1 hn s o kk => ⟨by rw [o.length, hn k rfl]; exact len_line hk, fun p hp => q _ _ (s.trans (Stp.new hp)).le ⟨_, Dq.newT (Env.free (E.step (r := 0) s) hp) hp o, kk⟩⟩
theorem evw_tupX (h : EvAs S c_t n t aa) : EvW S c_t (tTup t) (aTupX aa) := fun m Γ a Q ok mt hh σ H E R q =>
  h m Γ a _ ok mt hh σ H E.le _ fun xs ds H1 hn s o kk => ⟨by rw [o.length]; exact kk.1, fun p hp => q _ _ (s.trans (Stp.new hp)).le ⟨_, Dq.newT (Env.free (E.step (r := 0) s) hp) hp o, kk.2⟩⟩
theorem Env.back {m : Md} {Γ : Gam} {σ : L2.St} {H H1 : Hp} {c : Nat} (E : Env m c Γ σ H) (s : Stp m c H H1) {p : Addr} (hp : H1 p = none) : H p = none := by
  cases e : H p with
  | none => rfl
  | some o =>
    have h := s.kp p o e (Env.freeM (E.step (r := 0) s) hp)
    rw [hp] at h
    cases h
theorem new_fresh {m : Md} {Γ : Gam} {σ : L2.St} {H H1 : Hp} {xs : List V} {ds : List PyData} {R : VK} {Q : List PyData → Prop} {c : Nat} (E : Env m c Γ σ H) (s : Stp m c H H1) (o : DqA m.A H1 xs ds) (k : Q ds)
    (q : ∀ q xs ds H', Stp m c H H' → H q = none → H' q = some (.lst xs) → DqA (fun b => m.A b ∨ b = q) H' xs ds → Q ds → R (.ref q) H') : ∀ p, H1 p = none → R (.ref p) (upd H1 p (.lst xs)) := fun p hp =>
  q p xs ds _ (s.two (ext_new hp)) (Vc.Env.back E s hp) upd_same (o.to (to_addNew hp)) k
theorem evn_lst (h : EvAs S c_t (some k) t aa) (hk : k ≤ 1000) : EvN S c_t (tLst t) aa := fun m Γ a Q ok mt hh σ H E R q =>
  h m Γ a _ ok mt hh σ H E.le _ fun xs ds H1 hn s o kk => ⟨by rw [o.length, hn k rfl]; exact len_line hk, new_fresh E s o kk q⟩
theorem evn_lstX (h : EvAs S c_t n t aa) : EvN S c_t (tLst t) (aLstX aa) := fun m Γ a Q ok mt hh σ H E R q =>
  h m Γ a _ ok mt hh σ H E.le _ fun xs ds H1 hn s o kk => ⟨by rw [o.length]; exact kk.1, new_fresh E s o kk.2 q⟩
theorem e_tup {x1} (h : PVA X S c_t (some k) es t aa) (hk : k ≤ 1000 := by decide) : PV X S c_t (.Tuple es x1 pos) (tTup t) (aTup aa) := ⟨pe_tup h.pe, evw_tup h.ev hk⟩
theorem e_tupX {x1} (h : PVA X S c_t n es t aa) : PV X S c_t (.Tuple es x1 pos) (tTup t) (aTupX aa) := ⟨pe_tup h.pe, evw_tupX h.ev⟩
theorem n_lst (h : PVA X S c_t (some k) es t aa) (hk : k ≤ 1000 := by decide) : PVN X S c_t (.List es pos) (tLst t) aa := ⟨pe_lst h.pe, evn_lst h.ev hk⟩
theorem n_lstX (h : PVA X S c_t n es t aa) : PVN X S c_t (.List es pos) (tLst t) (aLstX aa) := ⟨pe_lst h.pe, evn_lstX h.ev⟩
end

/-! ### what reads lists and tuples -/
/-- a one-place built-in over a list or tuple -/
def aR (g : Bool → List PyData → (PyData → Prop) → Prop) (fl : AL) : AE := fun a Q => fl a fun t ds => g t ds Q
def aRN (g : Bool → List PyData → (List PyData → Prop) → Prop) (fl : AL) : AN := fun a Q => fl a fun t ds => g t ds Q
def gLen : Bool → List PyData → (PyData → Prop) → Prop := fun _ ds Q => Q (.int ds.length)
def gTuple : Bool → List PyData → (PyData → Prop) → Prop := fun _ ds Q => Q (.tuple ds)
def gList : Bool → List PyData → (List PyData → Prop) → Prop := fun _ ds Q => Q ds
def gAll : Bool → List PyData → (PyData → Prop) → Prop := fun t ds Q => t = false ∧ ∃ bs : List Bool, ds = bs.map .bool ∧ Q (.bool (bs.all id))
def gAny : Bool → List PyData → (PyData → Prop) → Prop := fun t ds Q => t = false ∧ ∃ bs : List Bool, ds = bs.map .bool ∧ Q (.bool (bs.any id))
def gSum : Bool → List PyData → (PyData → Prop) → Prop := fun t ds Q => t = false ∧ ∃ ns : List Int, ds = ns.map .int ∧ Q (.int ns.sum)
def gSort : Bool → List PyData → (List PyData → Prop) → Prop := fun t ds Q => t = false ∧ ∃ (α : Type) (_ : DecidableEq α) (_ : DatumOrd α) (xs : List α), ds = xs.map (Datum.toD (α := α)) ∧ Datum.depth α ≤ 32 ∧ SortOk xs ∧ Q ((xs.mergeSort leX).map (Datum.toD (α := α)))
def gJoin (z : Str) : Bool → List PyData → (PyData → Prop) → Prop := fun _ ds Q => ∃ ys : List Str, ds = ys.map .str ∧ (ys.map (·.length)).sum + ys.length * z.length ≤ 16777216 ∧ Q (.str (Txt.join z ys))
section
variable {X : Cx} {S : Stt} {e e2 : Expr} {te t2 : TE} {fl fl2 : AL} {fe : AE} {pos : Pos} {K : Frag}
/-- .. as said of values -/
def RdD (S : Stt) (r : List V → Hp → VK → Prop) (g : Bool → List PyData → (PyData → Prop) → Prop) : Prop := ∀ {m : Md} {Γ : Gam} {σ : L2.St} {H : Hp} {b : Addr} {t : Bool} {xs : List V} {ds : List PyData} {Q : PyData → Prop} {R : VK}, Ok S m → Env m 0 Γ σ H → Sq m H b t xs ds → g t ds Q →
  (∀ v H' d, Stp m 0 H H' → Dq m.A H' v d → Q d → R v H') → r [.ref b] H R
theorem evw_rd {r : List V → Hp → VK → Prop} {g : Bool → List PyData → (PyData → Prop) → Prop} (hd : RdD S r g) (h : EvS S c_te te fl) : EvW S c_te (tCB r (tCons te tNil)) (aR g fl) := fun m Γ a Q ok mt hh σ H E R q =>
  h m Γ a _ ok mt hh σ H E.le _ fun b t xs ds H1 s o k => hd ok (E.step s) o k fun v H2 d s2 o2 k2 => q v H2 (s.trans s2).le ⟨d, o2, k2⟩
/-- a new list comes of it -/
def RnD (S : Stt) (r : List V → Hp → VK → Prop) (g : Bool → List PyData → (List PyData → Prop) → Prop) : Prop := ∀ {m : Md} {Γ : Gam} {σ : L2.St} {H : Hp} {b : Addr} {t : Bool} {xs : List V} {ds : List PyData} {Q : List PyData → Prop} {R : VK}, Ok S m → Env m 0 Γ σ H → Sq m H b t xs ds → g t ds Q →
  (∀ zs es, DqA m.A H zs es → Q es → ∀ p, H p = none → R (.ref p) (upd H p (.lst zs))) → r [.ref b] H R
theorem evn_rn {r : List V → Hp → VK → Prop} {g : Bool → List PyData → (List PyData → Prop) → Prop} (hd : RnD S r g) (h : EvS S c_te te fl) : EvN S c_te (tCB r (tCons te tNil)) (aRN g fl) := fun m Γ a Q ok mt hh σ H E R q =>
  h m Γ a _ ok mt hh σ H E.le _ fun b t xs ds H1 s o k => hd ok (E.step s) o k fun zs es o2 k2 => new_fresh E s o2 k2 q
theorem Sq.or {m : Md} {H : Hp} {b : Addr} {t : Bool} {xs : List V} {ds : List PyData} (h : Sq m H b t xs ds) : SqL K H b xs ∨ SqT K H b xs := by
  have hb := h.hb
  cases t with
  | true => exact .inr (.inl (RdF.rd hb))
  | false => exact .inl (.inl (.inl hb))
theorem rd_len : RdD S (rLenS K) gLen := fun {m Γ σ H b t xs ds Q R} ok E o k q => ⟨b, xs, rfl, Sq.or o, q _ H _ Stp.refl (by rw [o.it.length]; exact .int _) k⟩
theorem rd_tuple : RdD S (rTupS K) gTuple := fun {m Γ σ H b t xs ds Q R} ok E o k q => by
  have hb := o.hb
  cases t with
  | true => exact ⟨b, xs, rfl, .inr ⟨.inl (RdF.rd hb), q _ H _ Stp.refl (.tup hb (o.A rfl) o.it) k⟩⟩
  | false => exact ⟨b, xs, rfl, .inl ⟨.inl (.inl hb), fun p hp => q _ _ _ (Stp.new hp) (Dq.newT (Env.free E hp) hp o.it) k⟩⟩
theorem rn_list : RnD S (rListS K) gList := fun {m Γ σ H b t xs ds Q R} ok E o k q => ⟨b, xs, rfl, Sq.or o, q xs ds o.it k⟩
theorem bools {A : Addr → Prop} {H : Hp} : ∀ {vs : List V} {bs : List Bool}, DqA A H vs (bs.map PyData.bool) → vs = bs.map V.bl
  | _, [], .nil => rfl
  | _, _ :: _, .cons h t => by
    cases h
    rw [bools t]
    rfl
theorem rd_all : RdD S (rAll K) gAll := fun {m Γ σ H b t xs ds Q R} ok E o ⟨e, bs, e2, k⟩ q => by
  subst e e2
  have hb := o.hb
  have := bools o.it
  subst this
  exact ⟨b, bs, rfl, .inl (.inl hb), q _ H _ Stp.refl (.bl _) k⟩
theorem rd_any : RdD S (rAny K) gAny := fun {m Γ σ H b t xs ds Q R} ok E o ⟨e, bs, e2, k⟩ q => by
  subst e e2
  have hb := o.hb
  have := bools o.it
  subst this
  exact ⟨b, bs, rfl, .inl (.inl hb), q _ H _ Stp.refl (.bl _) k⟩
theorem rd_sum : RdD S (rSum K) gSum := fun {m Γ σ H b t xs ds Q R} ok E o ⟨e, bs, e2, k⟩ q => by
  subst e e2
  have hb := o.hb
  have := o.it.ints
  subst this
  exact ⟨b, bs, rfl, .inl (.inl hb), q _ H _ Stp.refl (.int _) k⟩
theorem rn_sort : RnD S (rSortX K) gSort := fun {m Γ σ H b t xs ds Q R} ok E o ⟨e, α, i1, i2, ys, e2, hd, hk, k⟩ q => by
  subst e e2
  have hb := o.hb
  refine ⟨α, i1, i2, b, xs, ys, fun v x => Dq m.A H v (Datum.toD x), rfl, .inl (.inl hb), DqA.paired o.it, fun v x h => Dq.dp K (Datum.plain _) h, hd, hk, fun p zs hz hp => q zs _ (DqA.unpaired hz) k p hp⟩
end
/-! ### in, places, slices, joined texts -/
/-- x in a list or tuple, typed -/
def gIn (n : Bool) : PyData → Bool → List PyData → (PyData → Prop) → Prop := fun x _ ds Q => ∃ (α : Type) (_ : DecidableEq α) (_ : Datum α) (a : α) (as : List α), x = Datum.toD a ∧ ds = as.map (Datum.toD (α := α)) ∧ Datum.depth α ≤ 32 ∧ Q (.bool (n.xor (mem a as)))
/-- x in a list of any shaped data -/
def gInD (n : Bool) : PyData → Bool → List PyData → (PyData → Prop) → Prop := fun x t ds Q => t = false ∧ SeqAt.shaped x = true ∧ SeqAt.shaped (.list ds) = true ∧ Q (.bool (n.xor (ds.any fun z => PyData.eqv z x)))
def aOpS (g : PyData → Bool → List PyData → (PyData → Prop) → Prop) (fa : AE) (fl : AL) : AE := fun a Q => fa a fun x => fl a fun t ds => g x t ds Q
/-- a place of a list or tuple -/
def aIx (fl : AL) (fi : AE) : AE := fun a Q => fl a fun _ ds => fi a fun i => match i with
  | .int i => ∃ y, atI ds i = some y ∧ Q y
  | _ => False
def gIxS : PyData → PyData → (PyData → Prop) → Prop := fun x y Q => match x, y with
  | .str z, .int i => z.length ≤ sizeLine ∧ ∃ c, atI z.cps.toList i = some c ∧ Q (.str ⟨#[c]⟩)
  | _, _ => False
abbrev AO := Sg → (Option Int → Prop) → Prop
def EvO (S : Stt) (c : Nat) (to : TO) (ao : AO) : Prop := ∀ m Γ a Q, Ok S m → Mt S.p a Γ → ao a Q → ∀ σ H, Env m c Γ σ H → ∀ R : Option Int → Hp → Prop, (∀ i H', Stp m c H H' → Q i → R i H') → to σ H R
structure PVO (X : Cx) (S : Stt) (c : Nat) (e : Option Expr) (to : TO) (ao : AO) : Prop where
  pe : PO X e to
  ev : EvO S c to ao
def aONone : AO := fun _ Q => Q none
def aOSome (fa : AE) : AO := fun a Q => fa a fun x => match x with
  | .int i => Q (some i)
  | _ => False
def cutD {α : Type} (xs : List α) (lo hi : Option Int) : List α := (xs.drop (HT.sIx xs.length 0 lo)).take (HT.sIx xs.length xs.length hi - HT.sIx xs.length 0 lo)
def aSlL (fl : AL) (lo hi : AO) : AN := fun a Q => fl a fun t ds => lo a fun l => hi a fun h => t = false ∧ Q (cutD ds l h)
def aSlT (fl : AL) (lo hi : AO) : AE := fun a Q => fl a fun t ds => lo a fun l => hi a fun h => t = true ∧ Q (.tuple (cutD ds l h))
def aSlS (fa : AE) (lo hi : AO) : AE := fun a Q => fa a fun x => lo a fun l => hi a fun h => match x with
  | .str z => z.length ≤ sizeLine ∧ Q (.str (cutS z l h))
  | _ => False
def aCatL (fl fm : AL) : AN := fun a Q => fl a fun t ds => fm a fun u es => t = false ∧ u = false ∧ ds.length + es.length ≤ sizeLine ∧ Q (ds ++ es)
def aCatT (fl fm : AL) : AE := fun a Q => fl a fun t ds => fm a fun u es => t = true ∧ u = true ∧ ds.length + es.length ≤ sizeLine ∧ Q (.tuple (ds ++ es))
def aJoin (fa : AE) (fl : AL) : AE := fun a Q => fa a fun x => match x with
  | .str z => fl a fun t ds => gJoin z t ds Q
  | _ => False
section
variable {X : Cx} {S : Stt} {e e2 ex : Expr} {te t2 ti : TE} {fl fl2 : AL} {fe fi : AE} {pos p2 : Pos} {K : Frag} {tl th : TO} {al ah : AO} {lo hi : Option Expr}
theorem Sq.dps {m : Md} {H : Hp} {b : Addr} {t : Bool} {xs : List V} {α : Type} [DecidableEq α] [Datum α] {as : List α} (o : Sq m H b t xs (as.map Datum.toD)) : Dp K H (.ref b) (Datum.toD as) ∨ Dp K H (.ref b) (Datum.toD (Tup.mk as)) := by
  have hb := o.hb
  cases t with
  | true => exact .inr (.tup (.inl (RdF.rd hb)) (DqA.dp K (plainAll_toD _) o.it))
  | false => exact .inl (.lst (.inl (.inl hb)) (DqA.dp K (plainAll_toD _) o.it))
/-- .. as said of values -/
def InD (S : Stt) (r : R2) (g : PyData → Bool → List PyData → (PyData → Prop) → Prop) : Prop := ∀ {m : Md} {Γ : Gam} {σ : L2.St} {H : Hp} {x : V} {d : PyData} {b : Addr} {t : Bool} {xs : List V} {ds : List PyData} {Q : PyData → Prop} {R : VK}, Ok S m → Env m 0 Γ σ H → Dq m.A H x d → Sq m H b t xs ds → g d t ds Q →
  (∀ v H' d, Stp m 0 H H' → Dq m.A H' v d → Q d → R v H') → r x (.ref b) H R
theorem evw_opS {r : R2} {g : PyData → Bool → List PyData → (PyData → Prop) → Prop} (hr : InD S r g) (ha : EvW S c_te te fe) (hb : EvS S c_t2 t2 fl) : EvW S (c_te + c_t2) (tOp r te t2) (aOpS g fe fl) := fun m Γ a Q ok mt h σ H E R q =>
  ha m Γ a _ ok mt h σ H E.le _ fun x H1 s1 ⟨dx, ox, h1⟩ => hb m Γ a _ ok mt h1 σ H1 (E.step s1) _ fun b t xs ds H2 s2 o h2 =>
    hr ok (E.step (s1.trans s2)) (ox.to (s2.to E.sub)) o h2 fun v H3 d s3 o k => q v H3 ((s1.trans s2).trans s3).le ⟨d, o, k⟩
theorem ind_in : InD S (rInX K false) (gIn false) := fun {m Γ σ H x d b t xs ds Q R} ok E ox o ⟨α, i1, i2, a, as, e1, e2, hd, k⟩ q => by
  subst e1 e2
  exact ⟨α, i1, i2, a, as, Dq.dp K (Datum.plain _) ox, Sq.dps o, hd, q _ H _ Stp.refl (by rw [Bool.false_xor]; exact .bl _) k⟩
theorem ind_notIn : InD S (rInX K true) (gIn true) := fun {m Γ σ H x d b t xs ds Q R} ok E ox o ⟨α, i1, i2, a, as, e1, e2, hd, k⟩ q => by
  subst e1 e2
  exact ⟨α, i1, i2, a, as, Dq.dp K (Datum.plain _) ox, Sq.dps o, hd, q _ H _ Stp.refl (by rw [Bool.true_xor]; exact .bl _) k⟩
theorem ind_inD : InD S (rInD K) (gInD false) := fun {m Γ σ H x d b t xs ds Q R} ok E ox o ⟨e, s1, s2, k⟩ q => by
  subst e
  exact ⟨_, _, Dq.dp K (plain_sh s1) ox, .lst (.inl (.inl o.hb)) (DqA.dp K (plainAll_sh s2) o.it), s1, s2, q _ H _ Stp.refl (by rw [Bool.false_xor]; exact .bl _) k⟩
theorem ind_notInD : InD S (rNotInD K) (gInD true) := fun {m Γ σ H x d b t xs ds Q R} ok E ox o ⟨e, s1, s2, k⟩ q => by
  subst e
  exact ⟨_, _, Dq.dp K (plain_sh s1) ox, .lst (.inl (.inl o.hb)) (DqA.dp K (plainAll_sh s2) o.it), s1, s2, q _ H _ Stp.refl (by rw [Bool.true_xor]; exact .bl _) k⟩
theorem cmpS {op : CmpOp} {r : R2} {g : PyData → Bool → List PyData → (PyData → Prop) → Prop} (ho : OpR X (compareOp op) r) (hd : InD S r g) (ha : PV X S c_te e te fe) (hb : PVS X S c_t2 e2 t2 fl) (hm : behindInMarks op e2 = false := by rfl) : PV X S (c_te + c_t2) (.Compare e [op] [e2] pos) (tOp r te t2) (aOpS g fe fl) := ⟨pe_cmpR ho ha.pe hb.pe hm, evw_opS hd ha.ev hb.ev⟩
theorem t_cmpS {op : CmpOp} {r : R2} {g : PyData → Bool → List PyData → (PyData → Prop) → Prop} (ho : OpR X (compareOp op) r) (hd : InD S r g) (ha : PV X S c_te e te fe) (hb : PVS X S c_t2 e2 t2 fl) (hm : behindInMarks op e2 = false := by rfl) : PVT X S (c_te + c_t2) (.Compare e [op] [e2] pos) (tTest (tOp r te t2)) (aT (aOpS g fe fl)) := ⟨pt_cmpR ho ha.pe hb.pe hm, evb_test (evw_opS hd ha.ev hb.ev)⟩
theorem evw_ix (h : EvS S c_te te fl) (h2 : EvW S c_ti ti fi) : EvW S (c_te + c_ti) (tOp (rIx K) te ti) (aIx fl fi) := fun m Γ a Q ok mt hh σ H E R q =>
  h m Γ a _ ok mt hh σ H E.le _ fun b t xs ds H1 s o k => h2 m Γ a _ ok mt k σ H1 (E.step s) _ fun y H2 s2 ⟨d, oy, k2⟩ => by
    cases d with
    | int i =>
      cases oy
      obtain ⟨z, hz, k3⟩ := k2
      have o2 := o.step s2 E.sub
      have hb := o2.hb
      unfold atI at hz
      cases hn : ixN ds.length i with
      | none => rw [hn] at hz; cases hz
      | some j =>
        rw [hn] at hz
        obtain ⟨v, hv, ov⟩ := o2.it.get (i := j) hz
        have ha : atI xs i = some v := by
          unfold atI
          rw [o2.it.length, hn]
          exact hv
        cases t with
        | true => exact .inr (.inl ⟨b, xs, i, v, rfl, rfl, .inl (RdF.rd hb), ha, q v H2 (s.trans s2).le ⟨z, ov, k3⟩⟩)
        | false => exact .inl ⟨b, xs, i, v, rfl, rfl, .inl (.inl hb), ha, q v H2 (s.trans s2).le ⟨z, ov, k3⟩⟩
    | _ => exact k2.elim
theorem e_ix (K : Frag) (ha : PVS X S c_te e te fl) (hb : PV X S c_ti ex ti fi) (hs : PlainIx ex) (hK : X.K = K := by rfl) : PV X S (c_te + c_ti) (.Subscript e ex pos) (tOp (rIx K) te ti) (aIx fl fi) := ⟨pe_ix (k_ix K hK) ha.pe hb.pe hs, evw_ix ha.ev hb.ev⟩
theorem opd_ixS : OpD S rIxS gIxS := fun {m Γ σ H x y dx dy Q R} ok E ox oy k q => by
  unfold gIxS at k
  split at k
  · cases ox
    cases oy
    obtain ⟨h1, c, h2, h3⟩ := k
    exact ⟨_, _, c, rfl, rfl, h1, h2, q _ H _ Stp.refl (.str _) h3⟩
  · exact k.elim
theorem e_ixS (ha : PV X S c_te e te fe) (hb : PV X S c_ti ex ti fi) (hs : PlainIx ex) : PV X S (c_te + c_ti) (.Subscript e ex pos) (tOp rIxS te ti) (aOp gIxS fe fi) := ⟨pe_ix ix_str ha.pe hb.pe hs, evw_op opd_ixS ha.ev hb.ev⟩
theorem evo_none : EvO S 0 tNoPart aONone := fun m Γ a Q ok mt h σ H E R q => q none H Stp.refl h
theorem evo_some (h : EvW S c_te te fe) : EvO S c_te (tPart te) (aOSome fe) := fun m Γ a Q ok mt hh σ H E R q =>
  h m Γ a _ ok mt hh σ H E.le _ fun x H1 s ⟨d, o, k⟩ => by
    cases d with
    | int i =>
      cases o
      exact ⟨i, rfl, q _ H1 s k⟩
    | _ => exact k.elim
theorem o_none : PVO X S 0 none tNoPart aONone := ⟨po_none, evo_none⟩
theorem o_some (h : PV X S c_te e te fe) : PVO X S c_te (some e) (tPart te) (aOSome fe) := ⟨po_some h.pe, evo_some h.ev⟩
theorem cut_it {A : Addr → Prop} {H : Hp} {xs : List V} {ds : List PyData} (h : DqA A H xs ds) (l u : Option Int) : DqA A H (cutV xs l u) (cutD ds l u) := by
  unfold cutV cutD
  rw [h.length]
  exact (h.drop _).take _
theorem evn_slL (h : EvS S c_te te fl) (h1 : EvO S c_tl tl al) (h2 : EvO S c_th th ah) : EvN S (c_te + c_tl + c_th) (tSl (rSlL K) te tl th) (aSlL fl al ah) := fun m Γ a Q ok mt hh σ H E R q =>
  h m Γ a _ ok mt hh σ H E.le _ fun b t xs ds H1 s o k => h1 m Γ a _ ok mt k σ H1 (E.step s) _ fun l H2 s2 k2 => h2 m Γ a _ ok mt k2 σ H2 (E.step (s.trans s2)) _ fun u H3 s3 ⟨e, k3⟩ => by
    subst e
    have o3 := o.step (s2.trans s3) E.sub
    exact ⟨b, xs, rfl, .inl (.inl o3.hb), new_fresh E ((s.trans s2).trans s3).le (cut_it o3.it l u) k3 q⟩
theorem evw_slT (h : EvS S c_te te fl) (h1 : EvO S c_tl tl al) (h2 : EvO S c_th th ah) : EvW S (c_te + c_tl + c_th) (tSl (rSlA K) te tl th) (aSlT fl al ah) := fun m Γ a Q ok mt hh σ H E R q =>
  h m Γ a _ ok mt hh σ H E.le _ fun b t xs ds H1 s o k => h1 m Γ a _ ok mt k σ H1 (E.step s) _ fun l H2 s2 k2 => h2 m Γ a _ ok mt k2 σ H2 (E.step (s.trans s2)) _ fun u H3 s3 ⟨e, k3⟩ => by
    subst e
    have o3 := o.step (s2.trans s3) E.sub
    have st := ((s.trans s2).trans s3)
    refine ⟨b, xs, rfl, .inl (RdF.rd o3.hb), fun hw => q _ H3 st.le ⟨_, ?_, k3⟩, fun _ p hp => q _ _ (st.trans (Stp.new hp)).le ⟨_, Dq.newT (Env.free (E.step (r := 0) st) hp) hp (cut_it o3.it l u), k3⟩⟩
    have e : cutD ds l u = ds := by
      unfold cutD
      rw [← o3.it.length, hw.1, hw.2, o3.it.length]
      simp
    rw [e]
    exact .tup o3.hb (o3.A rfl) o3.it
theorem evw_slS (h : EvW S c_te te fe) (h1 : EvO S c_tl tl al) (h2 : EvO S c_th th ah) : EvW S (c_te + c_tl + c_th) (tSl rSlS te tl th) (aSlS fe al ah) := fun m Γ a Q ok mt hh σ H E R q =>
  h m Γ a _ ok mt hh σ H E.le _ fun x H1 s ⟨d, o, k⟩ => h1 m Γ a _ ok mt k σ H1 (E.step s) _ fun l H2 s2 k2 => h2 m Γ a _ ok mt k2 σ H2 (E.step (s.trans s2)) _ fun u H3 s3 k3 => by
    cases d with
    | str z =>
      cases o
      exact ⟨z, rfl, k3.1, q _ H3 ((s.trans s2).trans s3).le ⟨_, .str _, k3.2⟩⟩
    | _ => exact k3.elim
theorem sl_strR : SlR X rSlS := sl_str
theorem n_slL (K : Frag) (h : PVS X S c_te e te fl) (h1 : PVO X S c_tl lo tl al) (h2 : PVO X S c_th hi th ah) (hK : X.K = K := by rfl) : PVN X S (c_te + c_tl + c_th) (.Subscript e (.Slice lo hi none p2) pos) (tSl (rSlL K) te tl th) (aSlL fl al ah) := ⟨pe_slice (k_slL K hK) h.pe h1.pe h2.pe, evn_slL h.ev h1.ev h2.ev⟩
theorem e_slT (K : Frag) (h : PVS X S c_te e te fl) (h1 : PVO X S c_tl lo tl al) (h2 : PVO X S c_th hi th ah) (hK : X.K = K := by rfl) : PV X S (c_te + c_tl + c_th) (.Subscript e (.Slice lo hi none p2) pos) (tSl (rSlA K) te tl th) (aSlT fl al ah) := ⟨pe_slice (hK ▸ sl_tupA) h.pe h1.pe h2.pe, evw_slT h.ev h1.ev h2.ev⟩
theorem e_slS (h : PV X S c_te e te fe) (h1 : PVO X S c_tl lo tl al) (h2 : PVO X S c_th hi th ah) : PV X S (c_te + c_tl + c_th) (.Subscript e (.Slice lo hi none p2) pos) (tSl rSlS te tl th) (aSlS fe al ah) := ⟨pe_slice sl_str h.pe h1.pe h2.pe, evw_slS h.ev h1.ev h2.ev⟩
theorem evn_catL (h : EvS S c_te te fl) (h2 : EvS S c_t2 t2 fl2) : EvN S (c_te + c_t2) (tOp rCat te t2) (aCatL fl fl2) := fun m Γ a Q ok mt hh σ H E R q =>
  h m Γ a _ ok mt hh σ H E.le _ fun b t xs ds H1 s o k => h2 m Γ a _ ok mt k σ H1 (E.step s) _ fun b2 u ys es H2 s2 o2 ⟨e1, e2, hz, k3⟩ => by
    subst e1 e2
    have o1 := o.step s2 E.sub
    exact ⟨b, b2, xs, ys, rfl, rfl, o1.hb, o2.hb, by rw [o1.it.length, o2.it.length]; exact hz, new_fresh E (s.trans s2).le (o1.it.append o2.it) k3 q⟩
theorem evw_catT (h : EvS S c_te te fl) (h2 : EvS S c_t2 t2 fl2) : EvW S (c_te + c_t2) (tOp (rCatA K) te t2) (aCatT fl fl2) := fun m Γ a Q ok mt hh σ H E R q =>
  h m Γ a _ ok mt hh σ H E.le _ fun b t xs ds H1 s o k => h2 m Γ a _ ok mt k σ H1 (E.step s) _ fun b2 u ys es H2 s2 o2 ⟨e1, e2, hz, k3⟩ => by
    subst e1 e2
    have o1 := o.step s2 E.sub
    have st := s.trans s2
    have l1 := o1.it.length
    have l2 := o2.it.length
    refine ⟨b, b2, xs, ys, rfl, rfl, .inl (RdF.rd o1.hb), .inl (RdF.rd o2.hb), by rw [l1, l2]; exact hz, fun hx => q _ H2 st.le ⟨_, ?_, k3⟩, fun _ hy => q _ H2 st.le ⟨_, ?_, k3⟩, fun _ _ p hp => q _ _ (st.trans (Stp.new hp)).le ⟨_, Dq.newT (Env.free (E.step (r := 0) st) hp) hp (o1.it.append o2.it), k3⟩⟩
    · subst hx
      have : ds = [] := List.length_eq_zero_iff.mp l1.symm
      subst this
      exact .tup o2.hb (o2.A rfl) o2.it
    · subst hy
      have : es = [] := List.length_eq_zero_iff.mp l2.symm
      subst this
      rw [List.append_nil]
      exact .tup o1.hb (o1.A rfl) o1.it
theorem n_cat (h : PVS X S c_te e te fl) (h2 : PVS X S c_t2 e2 t2 fl2) : PVN X S (c_te + c_t2) (.BinOp e .Add e2 pos) (tOp rCat te t2) (aCatL fl fl2) := ⟨pe_op op_cat h.pe h2.pe, evn_catL h.ev h2.ev⟩
theorem e_catT (K : Frag) (h : PVS X S c_te e te fl) (h2 : PVS X S c_t2 e2 t2 fl2) (hK : X.K = K := by rfl) : PV X S (c_te + c_t2) (.BinOp e .Add e2 pos) (tOp (rCatA K) te t2) (aCatT fl fl2) := ⟨pe_op (hK ▸ op_catA) h.pe h2.pe, evw_catT h.ev h2.ev⟩
/-- ''.join(..) -/
abbrev rJoinK (K : Frag) : V → List V → Hp → VK → Prop := fun x xs H Q => ∃ a p, ∃ ys : List Str, x = .str a ∧ xs = [.ref p] ∧ (SqL K H p (ys.map V.str) ∨ SqT K H p (ys.map V.str)) ∧
      (ys.map (·.length)).sum + ys.length * a.length ≤ 16777216 ∧ Q (.str (Txt.join a ys)) H
theorem evw_join (h : EvW S c_te te fe) (h2 : EvS S c_t2 t2 fl) : EvW S (c_te + c_t2) (tM1 (rJoinK K) te t2) (aJoin fe fl) := fun m Γ a Q ok mt hh σ H E R q =>
  h m Γ a _ ok mt hh σ H E.le _ fun x H1 s ⟨d, o, k⟩ => by
    cases d with
    | str z =>
      cases o
      refine ⟨⟨z, rfl⟩, h2 m Γ a _ ok mt k σ H1 (E.step s) _ fun b t xs ds H2 s2 o2 k2 => ?_⟩
      obtain ⟨ys, rfl, hz, k3⟩ := k2
      have := o2.it.strs
      subst this
      exact ⟨z, b, ys, rfl, rfl, Sq.or o2, hz, q _ H2 (s.trans s2).le ⟨_, .str _, k3⟩⟩
    | _ => exact k.elim
theorem e_join (K : Frag) {apos : Pos} (ho : PV X S c_te e te fe) (he : PVS X S c_t2 e2 t2 fl) (hs : starEach [e2] X.env = [(false, eval e2 X.env)] := by rfl) (hbase : attributeBase e "join" X.env (eval e X.env) = eval e X.env := by rfl) (hline : (apos.endLine == pos.line) = true := by rfl) (hK : X.K = K := by rfl) :
    PV X S (c_te + c_t2) (.Call (.Attribute e "join" apos) [e2] [] pos) (tM1 (rJoinK K) te t2) (aJoin fe fl) := ⟨hK ▸ pe_join ho.pe he.pe hs hbase hline, evw_join ho.ev he.ev⟩
end
end Vc

set_option Elab.async false
set_option linter.all false
set_option maxRecDepth 100000
set_option maxHeartbeats 2000000
/-! Targets, walks, comprehensions. -/
namespace Vc
open PySem PySem.Spec PyProof.Rows L2 PySem.W Lh

/-! ### targets -/
abbrev AG := PyData → Sg → (Sg → Prop) → Prop
abbrev AGs := List PyData → Sg → (Sg → Prop) → Prop
def agV (i : Nat) : AG := fun x a P => P (a.set i (.d x))
def agNil : AGs := fun xs a P => xs = [] ∧ P a
def agCons (g : AG) (gs : AGs) : AGs := fun xs a P => match xs with
  | x :: r => g x a fun a' => gs r a' P
  | [] => False
def agTup (gs : AGs) : AG := fun x a P => match x with
  | .tuple xs => gs xs a P
  | _ => False
/-- no box but those of Γ -/
def Fewer (Γ' Γ : Gam) : Prop := ∀ (i : Nat) (q : Addr) (b : Bx), Γ'[i]? = some (some (.box q b)) → Γ[i]? = some (some (.box q b))
theorem Fewer.refl {Γ : Gam} : Fewer Γ Γ := fun _ _ _ h => h
theorem Fewer.trans {Γ Γ' Γ'' : Gam} (h : Fewer Γ'' Γ') (k : Fewer Γ' Γ) : Fewer Γ'' Γ := fun i q b e => k i q b (h i q b e)
theorem Fewer.set {Γ : Gam} {i : Nat} {f : Im} : Fewer (Γ.set i (some (.im f))) Γ := fun j q b e => by
  rw [List.getElem?_set] at e
  split at e
  · split at e <;> cases e
  · exact e
theorem Fewer.setN {Γ : Gam} {i : Nat} : Fewer (Γ.set i none) Γ := fun j q b e => by
  rw [List.getElem?_set] at e
  split at e
  · split at e <;> cases e
  · exact e
def TgW (S : Stt) (vs : List Nat) (tg : TG) (ag : AG) : Prop := ∀ m Γ a x P, Ok S m → Mt S.p a Γ → ag x a P → ∃ Γ' a', Tg m tg Γ (isD x) Γ' vs ∧ Mt S.p a' Γ' ∧ Fewer Γ' Γ ∧ P a'
/-- several at once -/
def Tgs (m : Md) (t : TGs) (Γ : Gam) (xs : List PyData) (Γ' : Gam) (vs : List Nat) : Prop := ∀ k σ H us, Env m k Γ σ H → DqA m.A H us xs → ∀ Q : L2.St → Hp → Prop, (∀ σ', Env m k Γ' σ' H → (∀ ws : List Nat, (∀ i ∈ vs, i ∈ ws) → wipe σ' ws = wipe σ ws) → Q σ' H) → t us σ H Q
def TgsW (S : Stt) (vs : List Nat) (n : Nat) (t : TGs) (ag : AGs) : Prop := ∀ m Γ a xs P, Ok S m → Mt S.p a Γ → ag xs a P → xs.length = n ∧ ∃ Γ' a', Tgs m t Γ xs Γ' vs ∧ Mt S.p a' Γ' ∧ Fewer Γ' Γ ∧ P a'
structure PVG (X : Cx) (S : Stt) (vs : List Nat) (e : Expr) (tg : TG) (ag : AG) : Prop where
  pe : PG X e tg
  ev : TgW S vs tg ag
structure PVGs (X : Cx) (S : Stt) (vs : List Nat) (n : Nat) (es : List Expr) (t : TGs) (ag : AGs) : Prop where
  pe : PGs X es t
  ev : TgsW S vs n t ag
section
variable {X : Cx} {S : Stt} {e : Expr} {es : List Expr} {tg : TG} {t : TGs} {ag : AG} {ags : AGs} {us ws : List Nat} {n : Nat} {pos : Pos} {K : Frag}
theorem tgw_v {i : Nat} : TgW S [i] (gName i) (agV i) := fun m Γ a x P ok mt h => ⟨_, _, tg_name, mt.set (.d x), Fewer.set, h⟩
theorem tgsw_nil : TgsW S [] 0 gNil agNil := fun m Γ a xs P ok mt h => by
  obtain ⟨rfl, h⟩ := h
  refine ⟨rfl, Γ, a, fun k σ H us E o Q q => ?_, mt, Fewer.refl, h⟩
  cases o
  exact ⟨rfl, q σ E fun ws _ => rfl⟩
theorem tgsw_cons (h1 : TgW S us tg ag) (h2 : TgsW S ws n t ags) : TgsW S (us ++ ws) (n + 1) (gCons tg t) (agCons ag ags) := fun m Γ a xs P ok mt h => by
  cases xs with
  | nil => exact h.elim
  | cons x r =>
    obtain ⟨Γ1, a1, t1, m1, f1, k1⟩ := h1 m Γ a x _ ok mt h
    obtain ⟨hl, Γ2, a2, t2, m2, f2, k2⟩ := h2 m Γ1 a1 r P ok m1 k1
    refine ⟨congrArg (· + 1) hl, Γ2, a2, fun k σ H vs E o Q q => ?_, m2, f2.trans f1, k2⟩
    cases o with
    | cons o1 o2 =>
      refine ⟨_, _, rfl, t1 k σ H _ E o1 _ fun σ1 E1 w1 => t2 k σ1 H _ E1 o2 Q fun σ2 E2 w2 => q σ2 E2 fun vs hv => ?_⟩
      rw [w2 vs fun i hi => hv i (List.mem_append_right _ hi), w1 vs fun i hi => hv i (List.mem_append_left _ hi)]
theorem tgw_tup (h : TgsW S us n t ags) : TgW S us (gTup K n t) (agTup ags) := fun m Γ a x P ok mt h1 => by
  cases x with
  | tuple xs =>
    obtain ⟨hl, Γ2, a2, t2, m2, f2, k2⟩ := h m Γ a xs P ok mt h1
    refine ⟨Γ2, a2, fun k σ H v E o Q q => ?_, m2, f2, k2⟩
    obtain ⟨b, zs, rfl, h3, h4, h5⟩ := Dq.tuple (show Dq m.A H v (.tuple xs) from o)
    exact ⟨b, zs, rfl, .inl h3, by rw [h5.length, hl], t2 k σ H zs E h5 Q q⟩
  | _ => exact h1.elim
theorem g_v {i : Nat} {x : Str} (hN : X.N.Nodup) (hi : X.N[i]? = some x) (hx : Loc X.env.scope x) (hf : X.fn x = true ∨ X.env.scope.names.lookup x = some .local := by first | exact .inl rfl | exact .inr rfl | assumption) : PVG X S [i] (.Name x pos) (gName i) (agV i) := ⟨pg_name hN hi hx hf, tgw_v⟩
theorem gs_nil : PVGs X S [] 0 [] gNil agNil := ⟨pgs_nil, tgsw_nil⟩
theorem gs_cons (h1 : PVG X S us e tg ag) (h2 : PVGs X S ws n es t ags) (hs : (assignEach (e :: es) X.env).map (·.2) = assign e X.env :: (assignEach es X.env).map (·.2) := by rfl) : PVGs X S (us ++ ws) (n + 1) (e :: es) (gCons tg t) (agCons ag ags) := ⟨pgs_cons h1.pe h2.pe hs, tgsw_cons h1.ev h2.ev⟩
theorem g_tup (K : Frag) {k : Nat} (hc : X.calm = true) (h : PVGs X S us n es t ags) (hn : (assignEach es X.env).length = n := by rfl) (hst : (assignEach es X.env).findIdx? (·.1) = none := by rfl) (hK : X.K = K := by rfl) :
    PVG X S us (.Tuple es k pos) (gTup K n t) (agTup ags) := ⟨k_tg K hc h.pe hn hst hK, tgw_tup h.ev⟩
end

/-! ### what is walked -/
def EvI' (S : Stt) (c : Nat) (wi : TI) (ai : AN) : Prop := ∀ m Γ a Q, Ok S m → Mt S.p a Γ → ai a Q → ∀ σ H, Env m c Γ σ H → ∀ R : It → Hp → Prop, (∀ J ds H', Stp m c H H' → Walks m.A H' J (ds.map isD) → Q ds → R J H') → wi σ H R
structure PVI (X : Cx) (S : Stt) (c : Nat) (tg e : Expr) (wi : TI) (ai : AN) : Prop where
  pe : PI X tg e wi
  ev : EvI' S c wi ai
def aiL (fe : AE) : AN := fun a Q => fe a fun x => match x with
  | .list ds => Q ds
  | _ => False
def aiT (fe : AE) : AN := fun a Q => fe a fun x => match x with
  | .tuple ds => Q ds
  | _ => False
def aiS (fe : AE) : AN := fun a Q => fe a fun x => match x with
  | .str z => Q (signsD z)
  | _ => False
def aiR1 (fe : AE) : AN := fun a Q => fe a fun x => match x with
  | .int n => (-(2 ^ 62) ≤ n ∧ n < 2 ^ 62) ∧ Q (rng 0 n.toNat)
  | _ => False
def aiR2 (fe ff : AE) : AN := fun a Q => fe a fun x => ff a fun y => match x, y with
  | .int i, .int n => (-(2 ^ 62) ≤ i ∧ i < 2 ^ 62 ∧ -(2 ^ 62) ≤ n ∧ n < 2 ^ 62) ∧ Q (rng i (n - i).toNat)
  | _, _ => False
def aiE (fe : AE) : AN := fun a Q => fe a fun x => match x with
  | .list ds => Q (enumD ds)
  | _ => False
def aiET (fe : AE) : AN := fun a Q => fe a fun x => match x with
  | .tuple ds => Q (enumD ds)
  | _ => False
def zipD (ds es : List PyData) : List PyData := (ds.zip es).map fun p => .tuple [p.1, p.2]
def aiZ (fe ff : AE) : AN := fun a Q => fe a fun x => ff a fun y => match x, y with
  | .list ds, .list es => Q (zipD ds es)
  | .tuple ds, .tuple es => Q (zipD ds es)
  | _, _ => False
section
variable {X : Cx} {S : Stt} {e e2 tg : Expr} {te t2 : TE} {fe ff : AE} {pos : Pos} {K : Frag} {H : Hp} {ds es : List PyData}
theorem evi_L (h : EvW S c_te te fe) : EvI' S c_te (iList K te) (aiL fe) := fun m Γ a Q ok mt hh σ H E R q =>
  h m Γ a _ ok mt hh σ H E.le _ fun v H1 s ⟨d, o, k⟩ => by
    cases d with
    | list ds =>
      obtain ⟨b, xs, rfl, h1, h2, h3⟩ := Dq.list o
      exact ⟨b, rfl, ⟨xs, .inl (.inl h1)⟩, q _ ds H1 s (walks_lst o) k⟩
    | _ => exact k.elim
theorem evi_T (h : EvW S c_te te fe) : EvI' S c_te (iTup K te) (aiT fe) := fun m Γ a Q ok mt hh σ H E R q =>
  h m Γ a _ ok mt hh σ H E.le _ fun v H1 s ⟨d, o, k⟩ => by
    cases d with
    | tuple ds =>
      obtain ⟨b, xs, rfl, h1, h2, h3⟩ := Dq.tuple o
      exact ⟨b, rfl, ⟨xs, .inl h1⟩, q _ ds H1 s (walks_tup o) k⟩
    | _ => exact k.elim
theorem evi_S (h : EvW S c_te te fe) : EvI' S c_te (iStr te) (aiS fe) := fun m Γ a Q ok mt hh σ H E R q =>
  h m Γ a _ ok mt hh σ H E.le _ fun v H1 s ⟨d, o, k⟩ => by
    cases d with
    | str z =>
      cases o
      exact ⟨z, rfl, q _ _ H1 s walks_str k⟩
    | _ => exact k.elim
theorem evi_R1 (h : EvW S c_te te fe) : EvI' S c_te (iRng1 (tCons te tNil)) (aiR1 fe) := fun m Γ a Q ok mt hh σ H E R q =>
  h m Γ a _ ok mt hh σ H E.le _ fun v H1 s ⟨d, o, k⟩ => by
    cases d with
    | int n =>
      cases o
      exact ⟨n, rfl, k.1.1, k.1.2, q _ _ H1 s walks_rng k.2⟩
    | _ => exact k.elim
theorem evi_R2 (h : EvW S c_te te fe) (h' : EvW S c_t2 t2 ff) : EvI' S (c_te + c_t2) (iRng2 (tCons te (tCons t2 tNil))) (aiR2 fe ff) := fun m Γ a Q ok mt hh σ H E R q =>
  h m Γ a _ ok mt hh σ H E.le _ fun v H1 s ⟨d, o, k⟩ => h' m Γ a _ ok mt k σ H1 (E.step s) _ fun v2 H2 s2 ⟨d2, o2, k2⟩ => by
    cases d with
    | int i =>
      cases d2 with
      | int n =>
        cases o
        cases o2
        exact ⟨i, n, rfl, k2.1, q _ _ H2 (s.trans s2).le walks_rng k2.2⟩
      | _ => exact k2.elim
    | _ => cases d2 <;> exact k2.elim
theorem walks_enumL {A₀ : Addr → Prop} {a : Addr} (h : Dq A₀ H (.ref a) (.list ds)) : Walks A₀ H (Ite K a) ((enumD ds).map isD) := fun A' H' kk hA => by
  obtain ⟨_, xs, e, h1, h2, h3⟩ := Dq.list h
  cases e
  have e := (kk _ _ h1 h2).1
  have h4 := h3.to kk
  refine ⟨fun i g hg => ?_, xs, .inl (.inl e), ?_⟩
  · unfold enumD at hg
    rw [List.map_map, List.getElem?_map] at hg
    by_cases hi : i < ds.length
    · rw [List.getElem?_range hi] at hg
      cases hg
      have ed : ds[i]? = some ds[i] := List.getElem?_eq_getElem hi
      obtain ⟨v, ev, hv⟩ := h4.get ed
      refine ⟨⟨xs, v, .inl (.inl e), ev⟩, fun x H'' ⟨T, y, ex, hT, eH, hy⟩ => ?_⟩
      subst ex eH
      have := hy xs (.inl (.inl e))
      rw [ev] at this
      cases this
      refine ⟨ext_new hT, ?_⟩
      have nT : ¬ A' T := fun z => (hA T z).1 hT
      refine Dq.newT nT hT (.cons (.int _) (.cons ?_ .nil))
      rw [List.getD_eq_getElem?_getD, ed]
      exact hv
    · rw [List.getElem?_eq_none (by rw [List.length_range]; omega)] at hg
      cases hg
  · rw [List.length_map, h4.length]
    unfold enumD
    rw [List.length_map, List.length_range]
    exact Nat.le_refl _
theorem evi_E (h : EvW S c_te te fe) : EvI' S c_te (iEnum K (tCons te tNil)) (aiE fe) := fun m Γ a Q ok mt hh σ H E R q =>
  h m Γ a _ ok mt hh σ H E.le _ fun v H1 s ⟨d, o, k⟩ => by
    cases d with
    | list ds =>
      obtain ⟨b, xs, rfl, h1, h2, h3⟩ := Dq.list o
      exact ⟨b, xs, rfl, .inl (.inl h1), q _ _ H1 s (walks_enumL o) k⟩
    | _ => exact k.elim
theorem evi_ET (h : EvW S c_te te fe) : EvI' S c_te (iEnumT K (tCons te tNil)) (aiET fe) := fun m Γ a Q ok mt hh σ H E R q =>
  h m Γ a _ ok mt hh σ H E.le _ fun v H1 s ⟨d, o, k⟩ => by
    cases d with
    | tuple ds =>
      obtain ⟨b, xs, rfl, h1, h2, h3⟩ := Dq.tuple o
      exact ⟨b, xs, rfl, .inl h1, q _ _ H1 s (walks_enumT o) k⟩
    | _ => exact k.elim
theorem zip_get {i : Nat} {g : PyData} (h : (zipD ds es)[i]? = some g) : ∃ x y, ds[i]? = some x ∧ es[i]? = some y ∧ g = .tuple [x, y] := by
  unfold zipD at h
  rw [List.getElem?_map] at h
  cases e : (ds.zip es)[i]? with
  | none => rw [e] at h; cases h
  | some p =>
    rw [e] at h
    cases h
    rw [List.getElem?_zip_eq_some] at e
    exact ⟨p.1, p.2, e.1, e.2, rfl⟩
theorem walks_zipL {A₀ : Addr → Prop} {a b : Addr} (h : Dq A₀ H (.ref a) (.list ds)) (h' : Dq A₀ H (.ref b) (.list es)) : Walks A₀ H (Itz K a b) ((zipD ds es).map isD) := fun A' H' kk hA => by
  obtain ⟨_, xs, e, h1, h2, h3⟩ := Dq.list h
  cases e
  obtain ⟨_, ys, e, g1, g2, g3⟩ := Dq.list h'
  cases e
  have e := (kk _ _ h1 h2).1
  have e' := (kk _ _ g1 g2).1
  have h4 := h3.to kk
  have g4 := g3.to kk
  refine ⟨fun i g hg => ?_, xs, ys, .inl (.inl e), .inl (.inl e'), ?_⟩
  · rw [List.getElem?_map] at hg
    cases ez : (zipD ds es)[i]? with
    | none => rw [ez] at hg; cases hg
    | some z =>
      rw [ez] at hg
      cases hg
      obtain ⟨x, y, ex, ey, rfl⟩ := zip_get ez
      obtain ⟨v, ev, hv⟩ := h4.get ex
      obtain ⟨u, eu, hu⟩ := g4.get ey
      refine ⟨⟨xs, ys, v, u, .inl (.inl e), .inl (.inl e'), ev, eu⟩, fun z H'' ⟨T, p, q, ez, hT, eH, hp, hq⟩ => ?_⟩
      subst ez eH
      have a1 := hp xs (.inl (.inl e))
      have a2 := hq ys (.inl (.inl e'))
      rw [ev] at a1
      rw [eu] at a2
      cases a1
      cases a2
      exact ⟨ext_new hT, Dq.newT (fun z => (hA T z).1 hT) hT (.cons hv (.cons hu .nil))⟩
  · rw [h4.length, g4.length]
    unfold zipD
    rw [List.length_map, List.length_map, List.length_zip]
    omega
theorem walks_zipT {A₀ : Addr → Prop} {a b : Addr} (h : Dq A₀ H (.ref a) (.tuple ds)) (h' : Dq A₀ H (.ref b) (.tuple es)) : Walks A₀ H (RZ.ItzT K a b) ((zipD ds es).map isD) := fun A' H' kk hA => by
  obtain ⟨_, xs, e, h1, h2, h3⟩ := Dq.tuple h
  cases e
  obtain ⟨_, ys, e, g1, g2, g3⟩ := Dq.tuple h'
  cases e
  have e := (To.rd kk h1 h2).1
  have e' := (To.rd kk g1 g2).1
  have h4 := h3.to kk
  have g4 := g3.to kk
  refine ⟨fun i g hg => ?_, xs, ys, .inl e, .inl e', ?_⟩
  · rw [List.getElem?_map] at hg
    cases ez : (zipD ds es)[i]? with
    | none => rw [ez] at hg; cases hg
    | some z =>
      rw [ez] at hg
      cases hg
      obtain ⟨x, y, ex, ey, rfl⟩ := zip_get ez
      obtain ⟨v, ev, hv⟩ := h4.get ex
      obtain ⟨u, eu, hu⟩ := g4.get ey
      refine ⟨⟨xs, ys, v, u, .inl e, .inl e', ev, eu⟩, fun z H'' ⟨T, p, q, ez, hT, eH, hp, hq⟩ => ?_⟩
      subst ez eH
      have a1 := hp xs (.inl e)
      have a2 := hq ys (.inl e')
      rw [ev] at a1
      rw [eu] at a2
      cases a1
      cases a2
      exact ⟨ext_new hT, Dq.newT (fun z => (hA T z).1 hT) hT (.cons hv (.cons hu .nil))⟩
  · rw [h4.length, g4.length]
    unfold zipD
    rw [List.length_map, List.length_map, List.length_zip]
    omega
theorem evi_Z (h : EvW S c_te te fe) (h' : EvW S c_t2 t2 ff) : EvI' S (c_te + c_t2) (RZ.iZipA K (tCons te (tCons t2 tNil))) (aiZ fe ff) := fun m Γ a Q ok mt hh σ H E R q =>
  h m Γ a _ ok mt hh σ H E.le _ fun v H1 s ⟨d, o, k⟩ => h' m Γ a _ ok mt k σ H1 (E.step s) _ fun v2 H2 s2 ⟨d2, o2, k2⟩ => by
    have o1 := o.to (s2.to E.sub)
    cases d with
    | list ds =>
      cases d2 with
      | list es =>
        obtain ⟨b, xs, rfl, h1, h2, h3⟩ := Dq.list o1
        obtain ⟨b', ys, rfl, g1, g2, g3⟩ := Dq.list o2
        exact ⟨b, b', xs, ys, rfl, .inl ⟨.inl (.inl h1), .inl (.inl g1), q _ _ H2 (s.trans s2).le (walks_zipL o1 o2) k2⟩⟩
      | _ => exact k2.elim
    | tuple ds =>
      cases d2 with
      | tuple es =>
        obtain ⟨b, xs, rfl, h1, h2, h3⟩ := Dq.tuple o1
        obtain ⟨b', ys, rfl, g1, g2, g3⟩ := Dq.tuple o2
        exact ⟨b, b', xs, ys, rfl, .inr ⟨.inl h1, .inl g1, q _ _ H2 (s.trans s2).le (walks_zipT o1 o2) k2⟩⟩
      | _ => exact k2.elim
    | _ => cases d2 <;> exact k2.elim
theorem i_L (K : Frag) (h : PV X S c_te e te fe) (hK : X.K = K := by rfl) : PVI X S c_te tg e (iList K te) (aiL fe) := ⟨k_forL K h.pe hK, evi_L h.ev⟩
theorem i_T (K : Frag) (h : PV X S c_te e te fe) (hK : X.K = K := by rfl) : PVI X S c_te tg e (iTup K te) (aiT fe) := ⟨k_forT K h.pe hK, evi_T h.ev⟩
theorem i_S (h : PV X S c_te e te fe) : PVI X S c_te tg e (iStr te) (aiS fe) := ⟨pi_str h.pe, evi_S h.ev⟩
theorem i_R1 {p : Pos} (hm : X.mg "range" = none) (ha : PV X S c_te e te fe) (hg : Gl X "range" := by rfl) (hs : starEach [e] X.env = [(false, eval e X.env)] := by rfl) : PVI X S c_te tg (.Call (.Name "range" p) [e] [] pos) (iRng1 (tCons te tNil)) (aiR1 fe) := ⟨pi_range1 hg hm (pa_cons ha.pe pa_nil hs) hs, evi_R1 ha.ev⟩
theorem i_R2 {p : Pos} (hm : X.mg "range" = none) (ha : PV X S c_te e te fe) (hb : PV X S c_t2 e2 t2 ff) (hg : Gl X "range" := by rfl) (hs : starEach [e, e2] X.env = [(false, eval e X.env), (false, eval e2 X.env)] := by rfl) (hs2 : starEach [e2] X.env = [(false, eval e2 X.env)] := by rfl) (hs3 : starEach [e, e2] X.env = (false, eval e X.env) :: starEach [e2] X.env := by rfl)
    (hpl : (backTo pos (starEach [e2] X.env)).any (·.1) = false := by rfl) :
    PVI X S (c_te + c_t2) tg (.Call (.Name "range" p) [e, e2] [] pos) (iRng2 (tCons te (tCons t2 tNil))) (aiR2 fe ff) := ⟨pi_range2 hg hm (pa_cons ha.pe (pa_cons hb.pe pa_nil hs2) hs3) hs hs2, evi_R2 ha.ev hb.ev⟩
theorem i_E (K : Frag) {p tpos : Pos} {elts : List Expr} {kk : Nat} (hm : X.mg "enumerate" = none) (ha : PV X S c_te e te fe) (hg : Gl X "enumerate" := by rfl) (hs : starEach [e] X.env = [(false, eval e X.env)] := by rfl) (hK : X.K = K := by rfl) : PVI X S c_te (.Tuple elts kk tpos) (.Call (.Name "enumerate" p) [e] [] pos) (iEnum K (tCons te tNil)) (aiE fe) := ⟨hK ▸ pi_enum hg hm (pa_cons ha.pe pa_nil hs) hs, evi_E ha.ev⟩
theorem i_ET (K : Frag) {p tpos : Pos} {elts : List Expr} {kk : Nat} (hm : X.mg "enumerate" = none) (ha : PV X S c_te e te fe) (hg : Gl X "enumerate" := by rfl) (hs : starEach [e] X.env = [(false, eval e X.env)] := by rfl) (hK : X.K = K := by rfl) : PVI X S c_te (.Tuple elts kk tpos) (.Call (.Name "enumerate" p) [e] [] pos) (iEnumT K (tCons te tNil)) (aiET fe) := ⟨k_enumT K hg hm (pa_cons ha.pe pa_nil hs) hs hK, evi_ET ha.ev⟩
theorem i_Z (K : Frag) {p tpos : Pos} {elts : List Expr} {kk : Nat} (hm : X.mg "zip" = none) (ha : PV X S c_te e te fe) (hb : PV X S c_t2 e2 t2 ff) (hg : Gl X "zip" := by rfl) (hs : starEach [e, e2] X.env = (false, eval e X.env) :: starEach [e2] X.env := by rfl) (hs2 : starEach [e2] X.env = [(false, eval e2 X.env)] := by rfl) (hpl : (backTo pos (starEach [e2] X.env)).any (·.1) = false := by rfl) (hK : X.K = K := by rfl) :
    PVI X S (c_te + c_t2) (.Tuple elts kk tpos) (.Call (.Name "zip" p) [e, e2] [] pos) (RZ.iZipA K (tCons te (tCons t2 tNil))) (aiZ fe ff) := ⟨hK ▸ RZ.pi_zipA hg hm (pa_cons ha.pe (pa_cons hb.pe pa_nil hs2) hs) hs hpl, evi_Z ha.ev hb.ev⟩
end

/-! ### comprehensions -/
def wipeA (a : Sg) : List Nat → Sg
  | [] => a
  | v :: vs => (wipeA a vs).set v .no
theorem Mt.wipe {p : Addr} {a : Sg} {Γ : Gam} (h : Mt p a Γ) : ∀ vs : List Nat, Mt p (wipeA a vs) (wipeG Γ vs)
  | [] => h
  | _ :: vs => (Mt.wipe h vs).set .no
def lcW (ag : AG) (at_ : AT) (ae : AE) (a : Sg) : List PyData → (List PyData → Prop) → Prop
  | [], Q => Q []
  | x :: xs, Q => ag x a fun a' => at_ a' fun b => (b = true → ae a' fun y => lcW ag at_ ae a xs fun ys => Q (y :: ys)) ∧ (b = false → lcW ag at_ ae a xs Q)
def aLc (ai : AN) (ag : AG) (at_ : AT) (ae : AE) (vs : List Nat) : AN := fun a Q => ai a fun ds => ds.length ≤ sizeLine ∧ lcW ag at_ ae (wipeA a vs) ds Q
def aYes : AT := fun _ Q => Q true
section
variable {S : Stt} {wi : TI} {ai : AN} {tg : TG} {ag : AG} {tt : TT} {at_ : AT} {te : TE} {ae : AE} {vs us : List Nat}
theorem evb_yes : EvB S 0 tYes aYes := fun m Γ a Q ok mt h σ H E R q => q true H Stp.refl h
theorem mul_sub {k i n : Nat} (h : i < n) : (n - i) * k = (n - (i + 1)) * k + k := by
  have : n - i = (n - (i + 1)) + 1 := by omega
  rw [this, Nat.succ_mul]
/-- the cost of at most so many turns -/
def lineN : Nat := 16777216
theorem evn_lc (hi : EvI' S c_wi wi ai) (hg : TgW S us tg ag) (hu : ∀ i ∈ us, i ∈ vs) (ht : EvB S c_tt tt at_) (he : EvW S c_te te ae) : EvN S (c_wi + lineN * (c_tt + c_te)) (tLc wi tg tt te vs) (aLc ai ag at_ ae vs) := fun m Γ a Q ok mt hh σ H E R q =>
  hi m Γ a _ ok mt hh σ H E.le _ fun J ds H1 s1 wk ⟨hz, hw⟩ Dp hD => by
    obtain ⟨k, hk⟩ : ∃ k, c_tt + c_te = k := ⟨_, rfl⟩
    rw [hk] at q
    have hz' : ds.length * k ≤ lineN * k := Nat.mul_le_mul_right k (by rw [sizeLine_eq] at hz; exact hz)
    rw [hk] at E
    have E1 : Env m (ds.length * k) Γ σ H1 := E.step s1
    have nM : ¬ m.M Dp := E1.freeM hD
    have nA : ¬ m.A Dp := E1.free hD
    have hDH : H Dp = none := Vc.Env.back E.le s1 hD
    have nb : NoBox Dp (wipeG Γ vs) := (E1.wipe vs).noBox hD
    refine ⟨fun i n H2 => n + i = ds.length ∧ Stp m (i * k) H1 H2 ∧ Env (m.add Dp) ((ds.length - i) * k) (wipeG Γ vs) (wipe σ vs) H2 ∧ ∃ acc es, H2 Dp = some (.lst acc) ∧ DqA (m.add Dp).A H2 acc es ∧ es.length ≤ i ∧ lcW ag at_ ae (wipeA a vs) (ds.drop i) (fun ys => Q (es ++ ys)),
      ⟨ds.length, rfl, (Stp.new hD).le, (E1.wipe vs).made hD, [], [], upd_same, .nil, Nat.le_refl _, hw⟩, fun i n H2 ⟨en, s2, E2, acc, es, eD, ha, hl, hq⟩ => ?_⟩
    have k2 : To m.A H1 (m.add Dp).A H2 := fun b o h n => ⟨s2.kp b o h fun z => n (E1.sub b z), fun z => z.elim n (ne_of_none h hD)⟩
    obtain ⟨w1, w2⟩ := wk (m.add Dp).A H2 k2 E2.trk
    rw [List.length_map] at w2
    by_cases hi : i < ds.length
    · have ed : ds.drop i = ds[i] :: ds.drop (i + 1) := List.drop_eq_getElem_cons hi
      have eu := mul_sub (k := k) hi
      have ev : (i + 1) * k = i * k + k := Nat.succ_mul ..
      rw [ed] at hq
      obtain ⟨go, turn⟩ := w1 i (isD ds[i]) (by rw [List.getElem?_map, List.getElem?_eq_getElem hi]; rfl)
      refine .inr ⟨go, fun H3 => Stp m ((i + 1) * k) H1 H3 ∧ Env (m.add Dp) ((ds.length - (i + 1)) * k) (wipeG Γ vs) (wipe σ vs) H3 ∧ ∃ acc es, H3 Dp = some (.lst acc) ∧ DqA (m.add Dp).A H3 acc es ∧ es.length ≤ i + 1 ∧ lcW ag at_ ae (wipeA a vs) (ds.drop (i + 1)) (fun ys => Q (es ++ ys)),
        fun H3 ⟨b, c, d⟩ => ⟨n - 1, by omega, by omega, b, c, d⟩, fun x H3 hy => ?_⟩
      obtain ⟨k3, gx⟩ := turn x H3 hy
      have s3 : Stp (m.add Dp) 0 H2 H3 := Stp.ext k3
      have E3 : Env (m.add Dp) ((ds.length - i) * k) (wipeG Γ vs) (wipe σ vs) H3 := E2.step s3
      obtain ⟨Γ', a', t1, mt1, f1, h1⟩ := hg (m.add Dp) _ _ _ _ ok.add (mt.wipe vs) hq
      refine t1 _ _ H3 x E3 gx _ fun σ' E4 hwp => ⟨by rw [hwp vs hu, wipe_wipe], ?_⟩
      refine ht (m.add Dp) Γ' a' _ ok.add mt1 h1 σ' H3 E4.le _ fun b H4 s4 h2 => ?_
      cases b with
      | true =>
        refine (if_pos rfl).mpr ?_
        refine he (m.add Dp) Γ' a' _ ok.add mt1 (h2.1 rfl) σ' H4 (E4.step s4) _ fun y H5 s5 ⟨e, oe, h3⟩ => ?_
        have s25 : Stp (m.add Dp) k H2 H5 := ((s3.trans s4).trans s5).le
        have E5 : Env (m.add Dp) ((ds.length - (i + 1)) * k) (wipeG Γ vs) (wipe σ vs) H5 := E2.step s25
        have ha5 := ha.to (s25.to E2.sub)
        refine ⟨acc, s25.kp _ _ eD nM, by rw [ha.length]; omega, ?_, E5.put (.inr rfl) nM (E1.free0 hD) nb, acc ++ [y], es ++ [e], upd_same, ?_, by rw [List.length_append]; show es.length + 1 ≤ i + 1; omega, ?_⟩
        · refine ⟨fun b o h n => ?_, fun n ho hn => ?_⟩
          · rw [upd_ne (ne_of_none h hD)]
            exact s25.kp b o (s2.kp b o h n) n
          · rw [ev, ← Nat.add_assoc] at ho ⊢
            have h7 := s25.inv _ ho (s2.inv n (m.okd ho (Nat.le_add_right _ _)) hn)
            exact m.imono h7 fun b o h hm => by
              rw [upd_ne (fun z : b = Dp => nM (z ▸ hm))]
              exact h
        · have t : To (m.add Dp).A H5 (m.add Dp).A (upd H5 Dp (.lst (acc ++ [y]))) := fun b o h n => ⟨by rw [upd_ne (fun z => n (.inr z))]; exact h, n⟩
          exact (ha5.append (.cons oe .nil)).to t
        · have : (fun ys => Q (es ++ [e] ++ ys)) = fun ys => Q (es ++ e :: ys) := by
            funext ys
            rw [List.append_assoc]
            rfl
          rw [this]
          exact h3
      | false =>
        refine (if_neg Bool.false_ne_true).mpr ?_
        have s24 : Stp (m.add Dp) k H2 H4 := (s3.trans s4).le
        exact ⟨⟨fun b o h n => s24.kp b o (s2.kp b o h n) n, fun n ho hn => by
          rw [ev, ← Nat.add_assoc] at ho ⊢
          exact s24.inv _ ho (s2.inv n (m.okd ho (Nat.le_add_right _ _)) hn)⟩, E2.step s24, acc, es, s24.kp _ _ eD nM, ha.to (s24.to E2.sub), by omega, h2.2 rfl⟩
    · have hi' : i = ds.length := by omega
      subst hi'
      rw [List.drop_length] at hq
      refine .inl ⟨w2, q Dp acc es H2 (s1.trans s2).le hDH eD ha ?_⟩
      have hq' : Q (es ++ []) := hq
      rw [List.append_nil] at hq'
      exact hq'
end
end Vc

set_option Elab.async false
set_option linter.all false
set_option maxRecDepth 100000
set_option maxHeartbeats 2000000
/-! Comprehensions as expressions, statements, defs. -/
namespace Vc
open PySem PySem.Spec PyProof.Rows L2 PySem.W Lh

structure PVTs (X : Cx) (S : Stt) (c : Nat) (es : List Expr) (tt : TT) (at_ : AT) : Prop where
  pe : PTs X es tt
  ev : EvB S c tt at_
section
variable {X : Cx} {S : Stt} {e : Expr} {tt : TT} {at_ : AT} {pos : Pos}
theorem ts_nil : PVTs X S 0 [] tYes aYes := ⟨pts_nil, evb_yes⟩
theorem ts_one (h : PVT X S c_tt e tt at_) : PVTs X S c_tt [e] tt at_ := ⟨pts_one h.pe, h.ev⟩
theorem n_lc {elt tg iter : Expr} {ifs : List Expr} {scope : Scope} {own : List (Str × Nat)} {wi : TI} {ai : AN} {g : TG} {ag : AG} {te : TE} {ae : AE} {us : List Nat} (hc : X.calm = true) (hN : X.N.Nodup) (hi : PVI X S c_wi tg iter wi ai) (ok : BlkOk X.N X.env.scope scope own)
    (hg : ∀ (s : Shared) (H : Hp) (C : Addr) (cl : List (Str × Addr)) (fp : List Addr), PVG (X.blk s H scope (compEnvC scope cl C X.env) fp) S us tg g ag) (ht : ∀ (s : Shared) (H : Hp) (C : Addr) (cl : List (Str × Addr)) (fp : List Addr), PVTs (X.blk s H scope (compEnvC scope cl C X.env) fp) S c_tt ifs tt at_)
    (he : ∀ (s : Shared) (H : Hp) (C : Addr) (cl : List (Str × Addr)) (fp : List Addr), PV (X.blk s H scope (compEnvC scope cl C X.env) fp) S c_te elt te ae) (hu : ∀ i ∈ us, i ∈ own.map (·.2) := by decide) (hs : ∀ x, foldedSetIterable iter X.env x = pure x := by intro _; rfl) :
    PVN X S (c_wi + lineN * (c_tt + c_te)) (.ListComp elt [⟨tg, iter, ifs, 0⟩] scope pos) (tLc wi g tt te (own.map (·.2))) (aLc ai ag at_ ae (own.map (·.2))) :=
  ⟨pe_lc hc hN hi.pe ok (fun s H C cl fp => (hg s H C cl fp).pe) (fun s H C cl fp => (ht s H C cl fp).pe) (fun s H C cl fp => (he s H C cl fp).pe) hs,
   evn_lc hi.ev (hg X.s_0 (fun _ => none) 0 [] []).ev hu (ht X.s_0 (fun _ => none) 0 [] []).ev (he X.s_0 (fun _ => none) 0 [] []).ev⟩
end

/-! ### where one stands -/
structure Fa where
  H0 : Hp
  A : Addr → Prop
  X : List (V × Im)
  B : Nat
  trk0 : ∀ a, A a → Tk (H0 a)
structure Fits (S : Stt) (F : Fa) (m : Md) : Prop where
  hH : m.H0 = F.H0
  ok : Ok S m
  hB : m.ok = fun n => n ≤ F.B
  sub : ∀ a, F.A a → m.A a
  ex : ∀ x ∈ F.X, x ∈ m.X
def Dis (Γ : Gam) : Prop := ∀ (i j : Nat) (q : Addr) (b b' : Bx), Γ[i]? = some (some (Ag.box q b)) → Γ[j]? = some (some (Ag.box q b')) → i = j
theorem Dis.fewer {Γ Γ' : Gam} (h : Dis Γ) (f : Fewer Γ' Γ) : Dis Γ' := fun i j q b b' h1 h2 => h i j q b b' (f i q b h1) (f j q b' h2)
theorem Dis.alone {Γ : Gam} (h : Dis Γ) {i : Nat} {q : Addr} {b : Bx} (hi : Γ[i]? = some (some (.box q b))) : NoBox q (Γ.set i none) := fun j p b' e z => by
  subst z
  rw [List.getElem?_set] at e
  split at e
  · split at e <;> cases e
  · rename_i hne
    exact hne (h i j p b b' hi e)
def Rep (S : Stt) (F : Fa) (k : Nat) (a : Sg) (σ : L2.St) (H : Hp) : Prop := ∃ m Γ, Fits S F m ∧ Mt S.p a Γ ∧ Dis Γ ∧ Env m k Γ σ H
theorem Rep.le {S : Stt} {F : Fa} {k r : Nat} {a : Sg} {σ : L2.St} {H : Hp} (h : Rep S F k a σ H) (hr : r ≤ k := by omega) : Rep S F r a σ H := by
  obtain ⟨m, Γ, f, mt, d, E⟩ := h
  exact ⟨m, Γ, f, mt, d, E.le hr⟩
/-- what is handed back: a datum (false) or a new list (true) -/
def RetV (S : Stt) (F : Fa) (κ : Bool) (v : V) (H : Hp) (d : PyData) : Prop := ∃ m Γ σ, Fits S F m ∧ Env m 0 Γ σ H ∧
  ((κ = false ∧ Dq m.A H v d) ∨ (κ = true ∧ ∃ q xs ds, v = .ref q ∧ d = .list ds ∧ m.H0 q = none ∧ ¬ m.M q ∧ H q = some (.lst xs) ∧ DqA (fun b => F.A b ∨ b = q) H xs ds))
structure AEnds where
  nx : Sg → Prop
  rt : PyData → Prop
  bk : Sg → Prop := fun _ => False
  ct : Sg → Prop := fun _ => False
abbrev AS := AEnds → Sg → Prop
structure Comp (S : Stt) (F : Fa) (κ : Bool) (k : Nat) (De : Ends) (En : AEnds) : Prop where
  nx : ∀ a σ H, Rep S F k a σ H → En.nx a → De.nx σ H
  rt : ∀ v H d, RetV S F κ v H d → En.rt d → De.rt v H
  bk : ∀ a σ H, Rep S F k a σ H → En.bk a → De.bk σ H
  ct : ∀ a σ H, Rep S F k a σ H → En.ct a → De.ct σ H
def StW (S : Stt) (κ : Bool) (c : Nat) (ts : TS) (as : AS) : Prop := ∀ F De En a σ H kr, Comp S F κ kr De En → Rep S F (c + kr) a σ H → as En a → ts De σ H
structure PVst (X : Cx) (S : Stt) (κ : Bool) (c : Nat) (st : Stmt) (ts : TS) (as : AS) : Prop where
  pe : PS X st ts
  ev : StW S κ c ts as
structure PVss (X : Cx) (S : Stt) (κ : Bool) (c : Nat) (sts : List Stmt) (ts : TS) (as : AS) : Prop where
  pe : PSs X sts ts
  ev : StW S κ c ts as

/-! ### statements -/
def aNext : AS := fun En a => En.nx a
def aSeq (s t : AS) : AS := fun En a => s { En with nx := t En } a
def aSet (i : Nat) (fe : AE) : AS := fun En a => fe a fun x => En.nx (a.set i (.d x))
def aSetN (i : Nat) (fn : AN) : AS := fun En a => fn a fun xs => En.nx (a.set i (.l xs))
def aAsg (fe : AE) (ag : AG) : AS := fun En a => fe a fun x => ag x a En.nx
def aPar (i j : Nat) (aa : AN) : AS := fun En a => aa a fun ds => match ds with
  | [x, y] => En.nx ((a.set i (.d x)).set j (.d y))
  | _ => False
def aIfS (t : AT) (s u : AS) : AS := fun En a => t a fun b => (b = true → s En a) ∧ (b = false → u En a)
def aRet (fe : AE) : AS := fun En a => fe a En.rt
def aRetN (fn : AN) : AS := fun En a => fn a fun ds => En.rt (.list ds)
def aRetB (i : Nat) : AS := fun En a => match a[i]? with
  | some (.l xs) => En.rt (.list xs)
  | _ => False
def aRet0 : AS := fun En _ => En.rt .none
def aDrop (fe : AE) : AS := fun En a => fe a fun _ => En.nx a
def aBreak : AS := fun En a => En.bk a
def aCont : AS := fun En a => En.ct a
def aApp (i : Nat) (fe : AE) : AS := fun En a => match a[i]? with
  | some (.l xs) => fe a fun x => xs.length < sizeLine ∧ En.nx (a.set i (.l (xs ++ [x])))
  | _ => False
def aClear (i : Nat) : AS := fun En a => match a[i]? with
  | some (.l _) => En.nx (a.set i (.l []))
  | _ => False
def aAug (i : Nat) (g : PyData → PyData → (PyData → Prop) → Prop) (fe : AE) : AS := fun En a => match a[i]? with
  | some (.d x) => fe a fun y => g x y fun z => En.nx (a.set i (.d z))
  | _ => False
def sealA (a : Sg) (i : Nat) : Sg := match a[i]? with
  | some (.l xs) => a.set i (.d (.list xs))
  | _ => a
def aSeal (i : Nat) (s : AS) : AS := fun En a => s En (sealA a i)
def forW (ag : AG) (body : AS) (En : AEnds) : List PyData → Sg → Prop
  | [], a => En.nx a
  | x :: xs, a => ag x a (body { nx := forW ag body En xs, rt := En.rt, bk := En.nx, ct := forW ag body En xs })
def aFor (ai : AN) (ag : AG) (body : AS) : AS := fun En a => ai a fun ds => forW ag body En ds a
def whW (t : AT) (body : AS) (En : AEnds) : Nat → Sg → Prop
  | 0, _ => False
  | n + 1, a => t a fun b => (b = true → body { nx := whW t body En n, rt := En.rt, bk := En.nx, ct := whW t body En n } a) ∧ (b = false → En.nx a)
def aWhile (t : AT) (body : AS) : AS := fun En a => ∃ n, whW t body En n a
section
variable {S : Stt} {F : Fa} {κ : Bool} {te : TE} {fe : AE} {fn : AN} {tg : TG} {ag : AG} {vs : List Nat} {tt : TT} {at_ : AT} {t u : TS} {s r : AS} {ta : TA} {aa : AN} {wi : TI} {ai : AN} {K : Frag}
theorem Rep.at {m : Md} {k : Nat} {Γ Γ' : Gam} {a' : Sg} {σ : L2.St} {H : Hp} (f : Fits S F m) (d : Dis Γ) (fw : Fewer Γ' Γ) (mt : Mt S.p a' Γ') (E : Env m k Γ' σ H) : Rep S F k a' σ H := ⟨m, Γ', f, mt, d.fewer fw, E⟩
theorem stw_next : StW S κ 0 tNext aNext := fun F De En a σ H kr c R h => c.nx a σ H R.le h
theorem stw_seq (h1 : StW S κ c_t t s) (h2 : StW S κ c_u u r) : StW S κ (c_t + c_u) (tSeq t u) (aSeq s r) := fun F De En a σ H kr c R h => h1 F { De with nx := u De } { En with nx := r En } a σ H (c_u + kr) ⟨fun a σ H R k => h2 F De En a σ H kr c R k, c.rt, fun a σ H R k => c.bk a σ H R.le k, fun a σ H R k => c.ct a σ H R.le k⟩ R.le h
theorem stw_set {i : Nat} (he : EvW S c_te te fe) : StW S κ c_te (tAsg te (gName i)) (aSet i fe) := fun F De En a σ H kr c ⟨m, Γ, f, mt, d, E⟩ h =>
  he m Γ a _ f.ok mt h σ H E.le _ fun v H' s ⟨x, o, k⟩ => c.nx _ _ _ (Rep.at f d Fewer.set (mt.set (.d x)) ((E.step s).set (g := D x) o)) k
theorem stw_asg (he : EvW S c_te te fe) (hg : TgW S vs tg ag) : StW S κ c_te (tAsg te tg) (aAsg fe ag) := fun F De En a σ H kr c ⟨m, Γ, f, mt, d, E⟩ h =>
  he m Γ a _ f.ok mt h σ H E.le _ fun v H' s ⟨x, o, k⟩ => by
    obtain ⟨Γ', a', t1, mt1, fw, k1⟩ := hg m Γ a x _ f.ok mt k
    exact t1 kr σ H' v (E.step s) o _ fun σ' E' _ => c.nx _ _ _ (Rep.at f d fw mt1 E') k1
theorem stw_par {i j : Nat} (ha : EvAs S c_ta (some 2) ta aa) : StW S κ c_ta (tPar i j ta) (aPar i j aa) := fun F De En a σ H kr c ⟨m, Γ, f, mt, d, E⟩ h =>
  ha m Γ a _ f.ok mt h σ H E.le _ fun vs ds H' hn s o k => by
    have hl := hn 2 rfl
    match ds, hl with
    | [x, y], _ =>
      cases o with
      | cons o1 o2 =>
        cases o2 with
        | cons o2 o3 =>
          cases o3
          exact ⟨_, _, rfl, c.nx _ _ _ (Rep.at f d (Fewer.set.trans Fewer.set) ((mt.set (.d x)).set (.d y)) (((E.step s).set (g := D x) o1).set (g := D y) o2)) k⟩
theorem stw_if (ht : EvB S c_tt tt at_) (h1 : StW S κ c_t t s) (h2 : StW S κ c_u u r) : StW S κ (c_tt + c_t + c_u) (tIfS tt t u) (aIfS at_ s r) := fun F De En a σ H kr c ⟨m, Γ, f, mt, d, E⟩ h =>
  ht m Γ a _ f.ok mt h σ H E.le _ fun b H' st k => by
    cases b with
    | true => exact (if_pos rfl).mpr (h1 F De En a σ H' kr c ⟨m, Γ, f, mt, d, E.step st⟩ (k.1 rfl))
    | false => exact (if_neg Bool.false_ne_true).mpr (h2 F De En a σ H' kr c ⟨m, Γ, f, mt, d, E.step st⟩ (k.2 rfl))
theorem stw_drop (he : EvW S c_te te fe) : StW S κ c_te (tDrop te) (aDrop fe) := fun F De En a σ H kr c ⟨m, Γ, f, mt, d, E⟩ h =>
  he m Γ a _ f.ok mt h σ H E.le _ fun v H' s ⟨x, o, k⟩ => c.nx _ _ _ ⟨m, Γ, f, mt, d, E.step s⟩ k
theorem stw_break : StW S κ 0 tBreak aBreak := fun F De En a σ H kr c R h => c.bk a σ H R.le h
theorem stw_cont : StW S κ 0 tCont aCont := fun F De En a σ H kr c R h => c.ct a σ H R.le h
theorem stw_ret (he : EvW S c_te te fe) : StW S false c_te (tRet te) (aRet fe) := fun F De En a σ H kr c ⟨m, Γ, f, mt, d, E⟩ h =>
  he m Γ a _ f.ok mt h σ H E.le _ fun v H' s ⟨x, o, k⟩ => c.rt v H' x ⟨m, Γ, σ, f, E.step s, .inl ⟨rfl, o⟩⟩ k
theorem stw_ret0 : StW S false 0 tRetN aRet0 := fun F De En a σ H kr c ⟨m, Γ, f, mt, d, E⟩ h => c.rt _ H .none ⟨m, Γ, σ, f, E.le, .inl ⟨rfl, .non⟩⟩ h
theorem stw_retN (he : EvN S c_te te fn) : StW S true c_te (tRet te) (aRetN fn) := fun F De En a σ H kr c ⟨m, Γ, f, mt, d, E⟩ h =>
  he m Γ a _ f.ok mt h σ H E.le _ fun q xs ds H' s hq hp o k => c.rt _ H' _ ⟨m, Γ, σ, f, E.step s, .inr ⟨rfl, q, xs, ds, rfl, rfl, E.free0 hq, E.freeM hq, hp, o.to fun b o h n => ⟨h, fun z => n (z.elim (fun z => .inl (f.sub b z)) .inr)⟩⟩⟩ k
theorem stw_retB {i : Nat} : StW S true 0 (tRet (tVar i)) (aRetB i) := fun F De En a σ H kr c ⟨m, Γ, f, mt, d, E⟩ h => by
  unfold aRetB at h
  split at h
  · rename_i xs e
    obtain ⟨q, e⟩ := mt.l e
    obtain ⟨v, h1, rfl, k1, k2, k3, o, k4, zs, rfl, k5⟩ := E.sl i _ e
    exact ⟨_, h1, c.rt _ H _ ⟨m, Γ, σ, f, E.le, .inr ⟨rfl, q, zs, xs, rfl, rfl, k3, k2, k4, k5.to fun b o h n => ⟨h, fun z => n (z.elim (fun z => f.sub b z) (fun z => by rw [z]; exact k1))⟩⟩⟩ h⟩
  · exact h.elim
theorem Env.newL {c k : Nat} {m : Md} {Γ : Gam} {σ : L2.St} {H H' : Hp} {i : Nat} {q : Addr} {xs : List V} {ds : List PyData} (E : Env m (c + k) Γ σ H) (s : Stp m c H H') (hq : H q = none) (hp : H' q = some (.lst xs)) (o : DqA (fun b => m.A b ∨ b = q) H' xs ds) :
    Env (m.add q) k (Γ.set i (some (.box q (bL ds)))) (σ.set i (some (.ref q))) H' := by
  have E1 := E.step (r := k) s
  have nb : NoBox q Γ := E.noBox hq
  have tt : To m.A H (m.add q).A H' := fun a o e n => ⟨s.kp a o e fun z => n (E.sub a z), fun z => z.elim n (ne_of_none e hq)⟩
  have E3 : Env (m.add q) k Γ σ H' := by
    refine ⟨E1.inv, E1.fr, fun a ha => .inl (E.sub a ha), fun a ha => ?_, fun x hx => x.2.mono tt (E.ex x hx), E.len, fun i g e => ?_⟩
    · rcases ha with ha | rfl
      · exact E1.trk a ha
      · rw [hp]; exact Tk.lst
    · obtain ⟨v, h1, h2⟩ := E.sl i g e
      refine ⟨v, h1, ?_⟩
      cases g with
      | im f => exact f.mono tt h2
      | box p b =>
        obtain ⟨e1, h3, h4, h5, u, h6, h7⟩ := h2
        exact ⟨e1, .inl h3, h4, h5, u, s.kp p u h6 h4, b.mono tt h7⟩
  exact E3.set ⟨rfl, .inr rfl, E.freeM hq, E.free0 hq, _, hp, xs, rfl, o⟩
theorem Fits.add {m : Md} {q : Addr} (f : Fits S F m) : Fits S F (m.add q) := ⟨f.hH, f.ok.add, f.hB, fun a h => .inl (f.sub a h), f.ex⟩
theorem Dis.setB {Γ : Gam} (h : Dis Γ) {i : Nat} {q : Addr} {b : Bx} (nb : NoBox q (Γ.set i none)) : Dis (Γ.set i (some (.box q b))) := by
  have key : ∀ j p b1, (Γ.set i (some (.box q b)))[j]? = some (some (.box p b1)) → (j = i ∧ p = q) ∨ (j ≠ i ∧ Γ[j]? = some (some (.box p b1)) ∧ p ≠ q) := by
    intro j p b1 e
    by_cases hj : i = j
    · subst hj
      rw [List.getElem?_set] at e
      rw [if_pos rfl] at e
      split at e
      · cases e; exact .inl ⟨rfl, rfl⟩
      · cases e
    · rw [List.getElem?_set_ne hj] at e
      exact .inr ⟨fun z => hj z.symm, e, fun z => nb j p b1 (by rw [List.getElem?_set_ne hj]; exact e) z⟩
  intro j k p b1 b2 e1 e2
  rcases key j p b1 e1 with ⟨h1, h2⟩ | ⟨h1, h2, h3⟩
  · rcases key k p b2 e2 with ⟨g1, g2⟩ | ⟨g1, g2, g3⟩
    · rw [h1, g1]
    · exact absurd h2 g3
  · rcases key k p b2 e2 with ⟨g1, g2⟩ | ⟨g1, g2, g3⟩
    · exact absurd g2 h3
    · exact h j k p b1 b2 h2 g2
theorem NoBox.wk {Γ : Gam} {q : Addr} {i : Nat} (h : NoBox q Γ) : NoBox q (Γ.set i none) := h.set' fun _ _ e => by cases e
theorem stw_setN {i : Nat} (he : EvN S c_te te fn) : StW S κ c_te (tAsg te (gName i)) (aSetN i fn) := fun F De En a σ H kr c ⟨m, Γ, f, mt, d, E⟩ h =>
  he m Γ a _ f.ok mt h σ H E.le _ fun q xs ds H' s hq hp o k => c.nx _ _ _ ⟨m.add q, _, f.add, mt.set (.l ds q), d.setB (NoBox.wk (E.noBox hq)), Env.newL E s hq hp o⟩ k
theorem Rep.box {k : Nat} {m : Md} {Γ : Gam} {a : Sg} {σ : L2.St} {H : Hp} {i : Nat} {q : Addr} {b : Bx} {xs : List PyData} {zs : List V} (f : Fits S F m) (d : Dis Γ) (mt : Mt S.p a Γ) (E : Env m k Γ σ H) (e : Γ[i]? = some (some (.box q b))) (o : DqA m.A H zs xs) : Rep S F k (a.set i (.l xs)) σ (upd H q (.lst zs)) :=
  ⟨m, _, f, mt.set (.l xs q), d.setB (d.alone e), E.rebox (b' := bL xs) e (d.alone e) ⟨zs, rfl, o⟩⟩
theorem stw_app {i : Nat} (he : EvW S c_te te fe) : StW S κ c_te (tDrop (tBM K "list" rAppend (tVar i) (tCons te tNil))) (aApp i fe) := fun F De En a σ H kr c ⟨m, Γ, f, mt, d, E⟩ h => by
  unfold aApp at h
  split at h
  · rename_i xs e
    obtain ⟨q, e⟩ := mt.l e
    obtain ⟨v, h1, rfl, k1, k2, k3, o, k4, zs, rfl, k5⟩ := E.sl i _ e
    refine ⟨_, h1, .inl ⟨rfl, _, .inl (.inl k4)⟩, he m Γ a _ f.ok mt h σ H E.le _ fun y H1 s ⟨x, oy, hz, k⟩ => ?_⟩
    have a7 := k5.to (s.to E.sub)
    exact ⟨q, zs, y, rfl, rfl, s.kp _ _ k4 k2, by rw [k5.length]; exact hz, c.nx _ _ _ (Rep.box f d mt (E.step s) e (a7.append (.cons oy .nil))) k⟩
  · exact h.elim
theorem stw_clear {i : Nat} : StW S κ 0 (tDrop (tBM0 K "list" rClear (tVar i))) (aClear i) := fun F De En a σ H kr c ⟨m, Γ, f, mt, d, E⟩ h => by
  unfold aClear at h
  split at h
  · rename_i xs e
    obtain ⟨q, e⟩ := mt.l e
    obtain ⟨v, h1, rfl, k1, k2, k3, o, k4, zs, rfl, k5⟩ := E.sl i _ e
    exact ⟨_, h1, .inl ⟨rfl, _, .inl (.inl k4)⟩, q, zs, rfl, rfl, k4, c.nx _ _ _ (Rep.box f d mt E.le e .nil) h⟩
  · exact h.elim
theorem stw_seal {i : Nat} (h : StW S κ c_t t s) : StW S κ c_t t (aSeal i s) := fun F De En a σ H kr c ⟨m, Γ, f, mt, d, E⟩ k => by
  unfold aSeal sealA at k
  split at k
  · rename_i xs e
    obtain ⟨q, e⟩ := mt.l e
    obtain ⟨v, h1, h2, h3, h4, h5, _⟩ := E.sl i _ e
    refine h F De En _ σ H kr c ⟨m.del q, _, ⟨f.hH, f.ok.del, f.hB, fun b hb => ⟨f.sub b hb, fun z => (F.trk0 b hb).1 (by rw [z, ← f.hH]; exact h5)⟩, f.ex⟩, mt.set (.d _), d.fewer Fewer.set, E.seal e (d.alone e)⟩ k
  · exact h F De En a σ H kr c ⟨m, Γ, f, mt, d, E⟩ k
theorem stw_aug {i : Nat} {ti : TIp} {g : PyData → PyData → (PyData → Prop) → Prop} (hd : OpD S ti g) (he : EvW S c_te te fe) : StW S κ c_te (tAug i te ti) (aAug i g fe) := fun F De En a σ H kr c ⟨m, Γ, f, mt, d, E⟩ h => by
  unfold aAug at h
  split at h
  · rename_i x e
    obtain ⟨v, h1, h2⟩ := E.sl i _ (mt.d e)
    refine ⟨v, h1, he m Γ a _ f.ok mt h σ H E.le _ fun y H1 s ⟨dy, oy, k⟩ => ?_⟩
    exact hd f.ok (E.step (r := 0) s) (Dq.to (s.to E.sub) h2) oy k fun z H2 dz s2 oz k2 => c.nx _ _ _ (Rep.at f d Fewer.set (mt.set (.d dz)) ((E.step (s.trans s2)).set (g := D dz) oz)) k2
  · exact h.elim
/-- what a walk carries -/
def Fa.lt (F : Fa) (A1 : Addr → Prop) (H1 : Hp) : Fa := ⟨F.H0, F.A, (.non, later A1 H1) :: F.X, F.B, F.trk0⟩
theorem Fits.lt {m : Md} {H1 : Hp} (f : Fits S F m) : Fits S (F.lt m.A H1) (m.lt H1) := ⟨f.hH, f.ok.lt, f.hB, f.sub, fun x hx => by
  rcases List.mem_cons.mp hx with rfl | hx
  · exact List.mem_cons_self
  · exact List.mem_cons_of_mem _ (f.ex x hx)⟩
theorem Fits.unlt {m : Md} {A1 : Addr → Prop} {H1 : Hp} (f : Fits S (F.lt A1 H1) m) : Fits S F m := ⟨f.hH, f.ok, f.hB, f.sub, fun x hx => f.ex x (List.mem_cons_of_mem _ hx)⟩
theorem Rep.unlt {k : Nat} {A1 : Addr → Prop} {H1 H : Hp} {a : Sg} {σ : L2.St} (h : Rep S (F.lt A1 H1) k a σ H) : Rep S F k a σ H := by
  obtain ⟨m, Γ, f, r⟩ := h
  exact ⟨m, Γ, f.unlt, r⟩
theorem RetV.unlt {A1 : Addr → Prop} {H1 H : Hp} {v : V} {d : PyData} (h : RetV S (F.lt A1 H1) κ v H d) : RetV S F κ v H d := by
  obtain ⟨m, Γ, σ, f, r⟩ := h
  exact ⟨m, Γ, σ, f.unlt, r⟩
theorem stw_forK {N : Nat} (hi : EvI' S c_wi wi ai) (hg : TgW S vs tg ag) (hb : StW S κ c_t t s) {G : List PyData → Prop → Prop} (hG : ∀ (ds : List PyData) P, G ds P → ds.length * c_t ≤ N * c_t ∧ P) :
    StW S κ (c_wi + N * c_t) (tFor wi tg t) (fun En a => ai a fun ds => G ds (forW ag s En ds a)) := fun F De En a σ H kr c ⟨m, Γ, f, mt, d, E⟩ h =>
  hi m Γ a _ f.ok mt h σ H E.le _ fun J ds H1 s1 wk hw0 => by
    obtain ⟨hl, hw⟩ := hG ds _ hw0
    have E1 : Env m (ds.length * c_t + kr) Γ σ H1 := E.step s1
    refine ⟨fun i n σ2 H2 => n + i = ds.length ∧ ∃ a', Rep S (F.lt m.A H1) ((ds.length - i) * c_t + kr) a' σ2 H2 ∧ forW ag s En (ds.drop i) a', ⟨ds.length, rfl, a, ⟨m.lt H1, Γ, f.lt, mt, d, E1.lt⟩, hw⟩, fun i n σ2 H2 ⟨en, a', ⟨m', Γ', f', mt', d', E'⟩, hq⟩ => ?_⟩
    have k2 : To m.A H1 m'.A H2 := E'.ex _ (f'.ex _ List.mem_cons_self)
    obtain ⟨w1, w2⟩ := wk m'.A H2 k2 E'.trk
    rw [List.length_map] at w2
    by_cases hi : i < ds.length
    · have ed : ds.drop i = ds[i] :: ds.drop (i + 1) := List.drop_eq_getElem_cons hi
      have eu := mul_sub (k := c_t) hi
      rw [ed] at hq
      obtain ⟨go, turn⟩ := w1 i (isD ds[i]) (by rw [List.getElem?_map, List.getElem?_eq_getElem hi]; rfl)
      refine .inr ⟨go, fun σ H => ∃ a', Rep S (F.lt m.A H1) ((ds.length - (i + 1)) * c_t + kr) a' σ H ∧ forW ag s En (ds.drop (i + 1)) a', fun σ' H' h => ⟨n - 1, by omega, by omega, h⟩, fun x H3 hy => ?_⟩
      obtain ⟨k3, gx⟩ := turn x H3 hy
      obtain ⟨Γ2, a2, t2, mt2, f2, h2⟩ := hg m' Γ' a' _ _ f'.ok mt' hq
      refine t2 _ σ2 H3 x (E'.step (r := (ds.length - i) * c_t + kr) (Stp.ext k3)) gx _ fun σ4 E4 _ => ?_
      refine hb (F.lt m.A H1) _ { nx := forW ag s En (ds.drop (i + 1)), rt := En.rt, bk := En.nx, ct := forW ag s En (ds.drop (i + 1)) } a2 σ4 H3 ((ds.length - (i + 1)) * c_t + kr) ⟨fun a σ H R k => ⟨a, R, k⟩, fun v H d R k => c.rt v H d R.unlt k, fun a σ H R k => c.nx a σ H R.unlt.le k, fun a σ H R k => ⟨a, R, k⟩⟩ (Rep.at f' d' f2 mt2 (E4.le (by omega))) h2
    · have e : i = ds.length := by omega
      subst e
      rw [List.drop_length] at hq
      exact .inl ⟨w2, c.nx a' σ2 H2 (Rep.unlt ⟨m', Γ', f', mt', d', E'.le⟩) hq⟩
/-- a loop that draws nothing -/
theorem stw_for (hi : EvI' S c_wi wi ai) (hg : TgW S vs tg ag) (hb : StW S κ 0 t s) : StW S κ c_wi (tFor wi tg t) (aFor ai ag s) := fun F De En a σ H kr c R h =>
  stw_forK (N := 0) (G := fun _ P => P) hi hg hb (fun ds P h => ⟨by omega, h⟩) F De En a σ H kr c R.le h
/-- a loop that draws: as many turns as a list may have items -/
def aForC (ai : AN) (ag : AG) (body : AS) : AS := fun En a => ai a fun ds => ds.length ≤ lineN ∧ forW ag body En ds a
theorem stw_forC (hi : EvI' S c_wi wi ai) (hg : TgW S vs tg ag) (hb : StW S κ c_t t s) : StW S κ (c_wi + lineN * c_t) (tFor wi tg t) (aForC ai ag s) :=
  stw_forK (N := lineN) (G := fun ds P => ds.length ≤ lineN ∧ P) hi hg hb fun ds P h => ⟨Nat.mul_le_mul_right _ h.1, h.2⟩
theorem StW.up (h : StW S κ c t s) (k : c ≤ c' := by omega) : StW S κ c' t s := fun F De En a σ H kr cc R hh => h F De En a σ H kr cc R.le hh
theorem stw_while (ht : EvB S 0 tt at_) (hb : StW S κ 0 t s) : StW S κ 0 (tWhile tt t) (aWhile at_ s) := fun F De En a σ H kr c R h => by
  obtain ⟨n, h⟩ := h
  refine ⟨fun n σ H => ∃ a, Rep S F kr a σ H ∧ whW at_ s En n a, ⟨n, a, R.le, h⟩, fun n σ' H' ⟨a', ⟨m, Γ, f, mt, d, E⟩, k⟩ => ?_⟩
  cases n with
  | zero => exact k.elim
  | succ n =>
    refine ht m Γ a' _ f.ok mt k σ' H' E.le _ fun b H2 s1 k2 => ?_
    have R2 : Rep S F kr a' σ' H2 := ⟨m, Γ, f, mt, d, E.step s1⟩
    cases b with
    | true =>
      refine (if_pos rfl).mpr ⟨fun σ H => ∃ a, Rep S F kr a σ H ∧ whW at_ s En n a, fun σ' H' ⟨a, R, k⟩ => ⟨n, Nat.lt_succ_self n, a, R, k⟩, ?_⟩
      exact hb F _ { nx := whW at_ s En n, rt := En.rt, bk := En.nx, ct := whW at_ s En n } a' σ' H2 kr ⟨fun a σ H R k => ⟨a, R, k⟩, c.rt, c.nx, fun a σ H R k => ⟨a, R, k⟩⟩ R2.le (k2.1 rfl)
    | false => exact (if_neg Bool.false_ne_true).mpr (c.nx a' σ' H2 R2 (k2.2 rfl))
end
end Vc

set_option Elab.async false
set_option linter.all false
set_option maxRecDepth 100000
set_option maxHeartbeats 2000000
/-! Statements with their rules; defs, calls. -/
namespace Vc
open PySem PySem.Spec PyProof.Rows L2 PySem.W Lh

section
variable {X : Cx} {S : Stt} {κ : Bool} {e c tg iter : Expr} {te : TE} {fe : AE} {fn : AN} {g : TG} {ag : AG} {vs : List Nat} {tt : TT} {at_ : AT} {t u : TS} {s r : AS} {ta : TA} {aa : AN} {wi : TI} {ai : AN} {K : Frag} {pos pos' : Pos} {st : Stmt} {rest body A B : List Stmt}
theorem q_nil : PVss X S κ 0 [] tNext aNext := ⟨pss_nil, stw_next⟩
theorem q_one (h : PVst X S κ c_t st t s) : PVss X S κ c_t [st] t s := ⟨pss_one h.pe, h.ev⟩
theorem q_cons (h : PVst X S κ c_t st t s) (k : PVss X S κ c_u rest u r) : PVss X S κ (c_t + c_u) (st :: rest) (tSeq t u) (aSeq s r) := ⟨pss_cons h.pe k.pe, stw_seq h.ev k.ev⟩
theorem s_pass : PVst X S κ 0 (.Pass pos) tNext aNext := ⟨ps_pass, stw_next⟩
theorem s_break : PVst X S κ 0 (.Break pos) tBreak aBreak := ⟨ps_break, stw_break⟩
theorem s_cont : PVst X S κ 0 (.Continue pos) tCont aCont := ⟨ps_continue, stw_cont⟩
theorem s_set {i : Nat} {x : Str} (hN : X.N.Nodup) (hi : X.N[i]? = some x) (hx : Loc X.env.scope x) (he : PV X S c_te e te fe) (hs : swapsWith e (some (.Name x pos')) pos.line X.env = pure false := by rfl) (hf : X.fn x = true ∨ X.env.scope.names.lookup x = some .local := by first | exact .inl rfl | exact .inr rfl | assumption) :
    PVst X S κ c_te (.Assign [.Name x pos'] e pos) (tAsg te (gName i)) (aSet i fe) := ⟨ps_set hN hi hx he.pe hs hf, stw_set he.ev⟩
theorem s_setN {i : Nat} {x : Str} (hN : X.N.Nodup) (hi : X.N[i]? = some x) (hx : Loc X.env.scope x) (he : PVN X S c_te e te fn) (hs : swapsWith e (some (.Name x pos')) pos.line X.env = pure false := by rfl) (hf : X.fn x = true ∨ X.env.scope.names.lookup x = some .local := by first | exact .inl rfl | exact .inr rfl | assumption) :
    PVst X S κ c_te (.Assign [.Name x pos'] e pos) (tAsg te (gName i)) (aSetN i fn) := ⟨ps_set hN hi hx he.pe hs hf, stw_setN he.ev⟩
theorem s_asg (he : PV X S c_te e te fe) (hg : PVG X S vs tg g ag) (hs : swapsWithSole [tg] e pos.line X.env = pure false := by rfl) (hw : swappedStores [tg] e X.env = pure none := by rfl) (ha : (assignEach [tg] X.env).map (·.2) = [assign tg X.env] := by rfl) : PVst X S κ c_te (.Assign [tg] e pos) (tAsg te g) (aAsg fe ag) := ⟨ps_asg he.pe hg.pe hs hw ha, stw_asg he.ev hg.ev⟩
theorem s_if (h : PVT X S c_tt c tt at_) (h1 : PVss X S κ c_t A t s) (h2 : PVss X S κ c_u B u r) : PVst X S κ (c_tt + c_t + c_u) (.If c A B pos) (tIfS tt t u) (aIfS at_ s r) := ⟨ps_if h.pe h1.pe h2.pe, stw_if h.ev h1.ev h2.ev⟩
theorem s_ret (h : PV X S c_te e te fe) : PVst X S false c_te (.Return (some e) pos) (tRet te) (aRet fe) := ⟨ps_ret h.pe, stw_ret h.ev⟩
theorem s_par {i j : Nat} {x y : Str} {a b : Expr} {px py pt : Pos} {kt k2 pt2} (hc : X.calm = true) (hN : X.N.Nodup) (hi : X.N[i]? = some x) (hj : X.N[j]? = some y) (hij : i ≠ j)
    (hx : X.env.scope.names.lookup x = some .local) (hy : X.env.scope.names.lookup y = some .local) (ha : PVA X S c_ta (some 2) [a, b] ta aa)
    (hw : swappedStores [.Tuple [.Name x px, .Name y py] kt pt] (.Tuple [a, b] k2 pt2) X.env = pure (some [x, y]))
    (hs : swapsWithSole [.Tuple [.Name x px, .Name y py] kt pt] (.Tuple [a, b] k2 pt2) pos.line X.env = pure false := by rfl) :
    PVst X S κ c_ta (.Assign [.Tuple [.Name x px, .Name y py] kt pt] (.Tuple [a, b] k2 pt2) pos) (tPar i j ta) (aPar i j aa) := ⟨ps_par hc hN hi hj hij hx hy ha.pe hw hs, stw_par ha.ev⟩
theorem s_ret0 : PVst X S false 0 (.Return none pos) tRetN aRet0 := ⟨ps_retN, stw_ret0⟩
theorem s_retN (h : PVN X S c_te e te fn) : PVst X S true c_te (.Return (some e) pos) (tRet te) (aRetN fn) := ⟨ps_ret h.pe, stw_retN h.ev⟩
theorem s_retB (i : Nat) {x : Str} {p2 : Pos} (hN : X.N[i]? = some x := by rfl) (hv : Vis X.env.scope x := by first | exact Or.inl rfl | exact Or.inr (Or.inl rfl) | exact Or.inr (Or.inr rfl)) (hd : (x == ("__debug__" : Str)) = false := by decide)
    (hcd : (x == ("__classdict__" : Str)) = false := by decide) : PVst X S true 0 (.Return (some (.Name x p2)) pos) (tRet (tVar i)) (aRetB i) := ⟨ps_ret (pe_var hN hv hd hcd), stw_retB⟩
theorem s_drop (h : PV X S c_te e te fe) (hs : swapsWith e none pos.line X.env = pure false := by rfl) : PVst X S κ c_te (.Expr e pos) (tDrop te) (aDrop fe) := ⟨ps_expr h.pe hs, stw_drop h.ev⟩
theorem s_app (K : Frag) (i : Nat) {x : Str} {np apos cpos : Pos} (h : PV X S c_te e te fe) (hN : X.N[i]? = some x := by rfl) (hv : Vis X.env.scope x := by first | exact Or.inl rfl | exact Or.inr (Or.inl rfl) | exact Or.inr (Or.inr rfl)) (hd : (x == ("__debug__" : Str)) = false := by decide)
    (hcd : (x == ("__classdict__" : Str)) = false := by decide) (hs : swapsWith (.Call (.Attribute (.Name x np) "append" apos) [e] [] cpos) none pos.line X.env = pure false := by rfl)
    (hb : attributeBase (.Name x np) "append" X.env (eval (.Name x np) X.env) = eval (.Name x np) X.env := by rfl)
    (h2 : ((backTo cpos (starEach [e] X.env)).all (fun x => !x.1) && (backToKw cpos (keywordEach [] X.env)).all (fun x => x.1.isSome) && decide ([e].length + ([] : List Keyword).length + (if ([] : List Keyword).isEmpty then 0 else 1) < 30)) = true := by rfl)
    (h3 : (apos.endLine == cpos.line) = true := by rfl) (h4 : starEach [e] X.env = (false, eval e X.env) :: starEach [] X.env := by rfl) (h5 : (backTo cpos (starEach [] X.env)).any (·.1) = false := by rfl) (hK : X.K = K := by rfl) :
    PVst X S κ c_te (.Expr (.Call (.Attribute (.Name x np) "append" apos) [e] [] cpos) pos) (tDrop (tBM K "list" rAppend (tVar i) (tCons te tNil))) (aApp i fe) :=
  ⟨ps_expr (k_bm K PySem.F.plainAttrs_list PySem.F.slot_list_append PySem.F.type_list_append mt_append (pe_var hN hv hd hcd) (pa_cons h.pe pa_nil h4) hb h2 h3 h4 h5 hK) hs, stw_app h.ev⟩
theorem s_clear (K : Frag) (i : Nat) {x : Str} {np apos cpos : Pos} (hN : X.N[i]? = some x := by rfl) (hv : Vis X.env.scope x := by first | exact Or.inl rfl | exact Or.inr (Or.inl rfl) | exact Or.inr (Or.inr rfl)) (hd : (x == ("__debug__" : Str)) = false := by decide)
    (hcd : (x == ("__classdict__" : Str)) = false := by decide) (hs : swapsWith (.Call (.Attribute (.Name x np) "clear" apos) [] [] cpos) none pos.line X.env = pure false := by rfl)
    (hb : attributeBase (.Name x np) "clear" X.env (eval (.Name x np) X.env) = eval (.Name x np) X.env := by rfl) (h3 : (apos.endLine == cpos.line) = true := by rfl) (hK : X.K = K := by rfl) :
    PVst X S κ 0 (.Expr (.Call (.Attribute (.Name x np) "clear" apos) [] [] cpos) pos) (tDrop (tBM0 K "list" rClear (tVar i))) (aClear i) :=
  ⟨ps_expr (k_bm0 K PySem.F.plainAttrs_list PySem.F.slot_list_clear PySem.F.type_list_clear mt_clear (pe_var hN hv hd hcd) hb h3 hK) hs, stw_clear⟩
theorem s_seal (i : Nat) (h : PVst X S κ c_t st t s) : PVst X S κ c_t st t (aSeal i s) := ⟨h.pe, stw_seal h.ev⟩
theorem s_aug {i : Nat} {x : Str} {op : Operator} {ti : TIp} {gg : PyData → PyData → (PyData → Prop) → Prop} (hN : X.N.Nodup) (hi : X.N[i]? = some x) (hx : Loc X.env.scope x) (ho : PIp X op ti) (hd : OpD S ti gg) (he : PV X S c_te e te fe) (hf : X.fn x = true ∨ X.env.scope.names.lookup x = some .local := by first | exact .inl rfl | exact .inr rfl | assumption) :
    PVst X S κ c_te (.AugAssign (.Name x pos') op e pos) (tAug i te ti) (aAug i gg fe) := ⟨ps_aug hN hi hx he.pe ho hf, stw_aug hd he.ev⟩
theorem s_while (hp : PassesOwn (model X.prog X.w) X.A X.env X.xe) (h : PVT X S 0 c tt at_) (hb : PVss X S κ 0 body t s) : PVst X S κ 0 (.While c body [] pos) (tWhile tt t) (aWhile at_ s) := ⟨ps_while hp h.pe hb.pe, stw_while h.ev hb.ev⟩
theorem s_for (hp : PassesOwn (model X.prog X.w) X.A X.env X.xe) (hc : X.calm = true) (hi : PVI X S c_wi tg iter wi ai) (hg : PVG X S vs tg g ag) (hb : PVss X S κ 0 body t s) (hs : ∀ x, foldedSetIterable iter X.env x = pure x := by intro _; rfl) : PVst X S κ c_wi (.For tg iter body [] pos) (tFor wi g t) (aFor ai ag s) := ⟨ps_for hp hc hi.pe hg.pe hb.pe hs, stw_for hi.ev hg.ev hb.ev⟩
theorem s_forC (hp : PassesOwn (model X.prog X.w) X.A X.env X.xe) (hc : X.calm = true) (hi : PVI X S c_wi tg iter wi ai) (hg : PVG X S vs tg g ag) (hb : PVss X S κ c_t body t s) (hs : ∀ x, foldedSetIterable iter X.env x = pure x := by intro _; rfl) : PVst X S κ (c_wi + lineN * c_t) (.For tg iter body [] pos) (tFor wi g t) (aForC ai ag s) := ⟨ps_for hp hc hi.pe hg.pe hb.pe hs, stw_forC hi.ev hg.ev hb.ev⟩
end

/-! ### defs -/
def RetOk (κ : Bool) (A : Addr → Prop) (H : Hp) (v : V) (H' : Hp) (d : PyData) : Prop :=
  (κ = false ∧ Dq A H' v d) ∨ (κ = true ∧ ∃ q xs ds, v = .ref q ∧ d = .list ds ∧ H q = none ∧ H' q = some (.lst xs) ∧ DqA (fun b => A b ∨ b = q) H' xs ds)
/-- a def of data -/
def spW (cs : List (Addr × PyData)) (κ : Bool) (W : List PyData → (PyData → Prop) → Prop) : Sp := fun vs H Q _ => ∃ A ds P, DqA A H vs ds ∧ (∀ a, A a → Tk (H a)) ∧ (∀ c ∈ cs, Dq A H (.ref c.1) c.2) ∧ W ds P ∧ ∀ v d H', (∀ a o, H a = some o → H' a = some o) → RetOk κ A H v H' d → P d → Q v H'
/-- .. that draws from a state, its first argument -/
def spWS (Φ : Stt → Prop) (c : Nat) (κ : Bool) (W : List PyData → (PyData → Prop) → Prop) : Sp := fun vs H Q _ => ∃ A S us ds P, Φ S ∧ vs = .ref S.p :: us ∧ DqA A H us ds ∧ (∀ a, A a → Tk (H a)) ∧ (∀ c ∈ S.cs, Dq A H (.ref c.1) c.2) ∧ (∀ a, S.M a → A a) ∧ (∃ n, n + c ≤ S.B ∧ S.I n H ∧ W ds P ∧
  ∀ v d H', (∀ a o, H a = some o → ¬ S.M a → H' a = some o) → S.I (n + c) H' → RetOk κ A H v H' d → P d → Q v H')
/-- what a def asks of its arguments: n of them, N slots -/
def fnW (κ : Bool) (n N : Nat) (s : AS) : List PyData → (PyData → Prop) → Prop := fun ds Q => ds.length = n ∧ s { nx := fun _ => κ = false ∧ Q .none, rt := Q } (ds.map .d ++ List.replicate (N - n) .no)
def fnWS (κ : Bool) (n N : Nat) (s : AS) : List PyData → (PyData → Prop) → Prop := fun ds Q => ds.length = n ∧ s { nx := fun _ => κ = false ∧ Q .none, rt := Q } (.st :: (ds.map .d ++ List.replicate (N - (n + 1)) .no))
theorem mt_start {p : Addr} {N : Nat} {ds : List PyData} : Mt p (ds.map .d ++ List.replicate (N - ds.length) .no) (startG N ds) := by
  refine ⟨by unfold startG; simp, fun i x e => ?_⟩
  unfold startG
  by_cases hi : i < ds.length
  · rw [List.getElem?_append_left (by rw [List.length_map]; exact hi), List.getElem?_map, List.getElem?_eq_getElem hi] at e
    rw [List.getElem?_append_left (by rw [List.length_map]; exact hi), List.getElem?_map, List.getElem?_eq_getElem hi]
    cases e
    exact ⟨_, rfl, .d _⟩
  · rw [List.getElem?_append_right (by rw [List.length_map]; omega), List.getElem?_replicate, List.length_map] at e
    rw [List.getElem?_append_right (by rw [List.length_map]; omega), List.getElem?_replicate, List.length_map]
    split at e
    · rename_i h
      cases e
      exact ⟨none, if_pos h, .no⟩
    · cases e
theorem dis_start {N : Nat} {ds : List PyData} : Dis (startG N ds) := fun i j q b b' e _ => by
  exfalso
  unfold startG at e
  by_cases hi : i < ds.length
  · rw [List.getElem?_append_left (by rw [List.length_map]; exact hi), List.getElem?_map, List.getElem?_eq_getElem hi] at e
    cases e
  · rw [List.getElem?_append_right (by rw [List.length_map]; omega), List.getElem?_replicate] at e
    split at e <;> cases e
def carried (cs : List (Addr × PyData)) : List (V × Im) := cs.map fun c => (.ref c.1, isD c.2)
def mNul (cs : List (Addr × PyData)) (A : Addr → Prop) (H : Hp) : Md := { H0 := H, M := fun _ => False, I := fun _ _ => True, ok := fun n => n ≤ 0, A := A, X := carried cs, itrk := fun _ h => h.elim, imono := fun _ _ => trivial, iup := fun _ _ => trivial, okd := fun h k => Nat.le_trans k h }
theorem carried_in {cs : List (Addr × PyData)} : ∀ c ∈ cs, (V.ref c.1, isD c.2) ∈ carried cs := fun c hc => List.mem_map_of_mem hc
theorem ok_nul {cs : List (Addr × PyData)} {A : Addr → Prop} {H : Hp} : Ok (Stt.nul cs) (mNul cs A H) := ⟨rfl, rfl, ⟨0, Nat.le_refl _, rfl⟩, carried_in⟩
theorem env_nul {A : Addr → Prop} {H : Hp} {N : List Str} {vs : List V} {ds : List PyData} {cs : List (Addr × PyData)} (h : DqA A H vs ds) (ht : ∀ a, A a → Tk (H a)) (hc : ∀ c ∈ cs, Dq A H (.ref c.1) c.2) : Env (mNul cs A H) 0 (startG N.length ds) (L2.start N vs) H := by
  have E := env_start (N := N) h ht
  refine ⟨⟨0, Nat.le_refl _, trivial⟩, E.fr, E.sub, E.trk, fun x hx => by
    obtain ⟨c, hx', rfl⟩ := List.mem_map.mp hx
    exact hc c hx', E.len, fun i g e => ?_⟩
  obtain ⟨v, h1, h2⟩ := E.sl i g e
  refine ⟨v, h1, ?_⟩
  cases g with
  | im f => exact h2
  | box q b => exact h2
section
variable {P : Program} {w : World} {K : Frag} {mg : Str → Option Value} {base : Heap}
theorem fn_ok {x qual : Str} {st : Stmt} {f : Addr} {fd : FuncData} {N ps : List Str} {k : Nat} {κ : Bool} {s : AS} {ts : TS} {cs : List (Addr × PyData)} (F : Fun K x qual st f fd) (Sc : FnScope N ps (defScope st))
    (hb : ∀ (cdv : Value) (A : Around) (outer : List Env) (s0 : Shared) (H : Hp) (E : XK), Room k (A.deeper (envOfC qual (defScope st) s0.heap.objs.size f cdv)) →
      PVss (cxOf CX0 P w K mg base N qual (defScope st) f cdv A outer s0 H E).nox (Stt.nul cs) κ 0 (defBody st) ts s) :
    FnOk P w K mg base CX0 (k + 1) f fd ps (spW cs κ (fnW κ ps.length N.length s)) := by
  refine F.ok Sc (fun vs H Q E h => ?_) (fun cdv A outer s0 H vs Q E hr h => ?_)
  · obtain ⟨A, ds, P, hd, _, _, ⟨hl, _⟩, _⟩ := h
    rw [hd.length, hl]
  · obtain ⟨A', ds, P, hd, ht, hcs, ⟨hl, hw⟩, q⟩ := h
    have B := hb cdv A outer s0 H E hr
    refine ⟨ts, B.pe, ?_⟩
    rw [← hl] at hw
    have E0 := env_nul (N := N) hd ht hcs
    have R0 : Rep (Stt.nul cs) ⟨H, A', [], 0, ht⟩ (0 + 0) (ds.map .d ++ List.replicate (N.length - ds.length) .no) (L2.start N vs) H := ⟨mNul cs A' H, _, ⟨rfl, ok_nul, rfl, fun _ h => h, fun x h => absurd h (by simp)⟩, mt_start, dis_start, E0⟩
    have rt : ∀ v H' d, RetV (Stt.nul cs) ⟨H, A', [], 0, ht⟩ κ v H' d → P d → Q v H' := fun v H' d ⟨m, Γ, σ, f, E', k⟩ hP => by
      refine q v d H' (fun a o h => ?_) ?_ hP
      · have hm : ¬ m.M a := by rw [f.ok.hM]; exact fun z => z
        exact E'.fr a o (by rw [f.hH]; exact h) hm
      · rcases k with ⟨rfl, o⟩ | ⟨rfl, p, xs, es, rfl, rfl, h0, hM, hp, o⟩
        · exact .inl ⟨rfl, o.to fun a o h n => ⟨h, fun z => n (f.sub a z)⟩⟩
        · refine .inr ⟨rfl, p, xs, es, rfl, rfl, ?_, hp, o⟩
          rw [f.hH] at h0
          exact h0
    refine B.ev ⟨H, A', [], 0, ht⟩ _ { nx := fun _ => κ = false ∧ P .none, rt := P } _ _ H 0 ⟨fun a σ H' ⟨m, Γ, f, mt, d, E'⟩ k => rt .non H' .none ⟨m, Γ, σ, f, E', .inl ⟨k.1, .non⟩⟩ k.2, rt, fun a σ H' _ k => k.elim, fun a σ H' _ k => k.elim⟩ R0 hw
/-- where a state is drawn from -/
def mSt (S : Stt) (B : Nat) (A : Addr → Prop) (H : Hp) : Md := { H0 := H, M := S.M, I := S.I, ok := fun n => n ≤ B, A := A, X := carried S.cs, itrk := S.trk, imono := S.keep, iup := S.up, okd := fun h k => Nat.le_trans k h }
theorem env_st {S : Stt} {A : Addr → Prop} {H : Hp} {N : List Str} {us : List V} {ds : List PyData} (h : DqA A H us ds) (ht : ∀ a, A a → Tk (H a)) (hs : ∀ a, S.M a → A a) (hc : ∀ c ∈ S.cs, Dq A H (.ref c.1) c.2) {n k B : Nat} (hn : n + k ≤ B) (hI : S.I n H) : Env (mSt S B A H) k (startS N.length S.p ds) (L2.start N (.ref S.p :: us)) H := by
  refine ⟨⟨n, hn, hI⟩, fun _ _ h _ => h, hs, ht, fun x hx => by
    obtain ⟨c, h, rfl⟩ := List.mem_map.mp hx
    exact hc c h, ?_, fun i g e => ?_⟩
  · unfold L2.start startS
    simp only [List.length_append, List.length_map, List.length_replicate, List.length_cons, h.length]
    omega
  · unfold startS at e
    cases i with
    | zero =>
      cases e
      exact ⟨.ref S.p, rfl, rfl⟩
    | succ i =>
      rw [List.getElem?_cons_succ] at e
      by_cases hi : i < ds.length
      · rw [List.getElem?_append_left (by rw [List.length_map]; exact hi), List.getElem?_map] at e
        cases ed : ds[i]? with
        | none => rw [ed] at e; cases e
        | some d =>
          rw [ed] at e
          cases e
          obtain ⟨v, ev, hv⟩ := h.get ed
          refine ⟨v, ?_, hv⟩
          unfold L2.start
          rw [List.map_cons, List.cons_append, List.getElem?_cons_succ, List.getElem?_append_left (by rw [List.length_map, h.length]; exact hi), List.getElem?_map, ev]
          rfl
      · rw [List.getElem?_append_right (by rw [List.length_map]; omega), List.getElem?_replicate] at e
        split at e <;> cases e
theorem mt_startS {p : Addr} {N : Nat} {ds : List PyData} : Mt p (.st :: (ds.map .d ++ List.replicate (N - (ds.length + 1)) .no)) (startS N p ds) := by
  refine ⟨by unfold startS; simp, fun i x e => ?_⟩
  unfold startS
  cases i with
  | zero =>
    cases e
    exact ⟨_, rfl, .st⟩
  | succ i =>
    rw [List.getElem?_cons_succ] at e ⊢
    by_cases hi : i < ds.length
    · rw [List.getElem?_append_left (by rw [List.length_map]; exact hi), List.getElem?_map, List.getElem?_eq_getElem hi] at e
      rw [List.getElem?_append_left (by rw [List.length_map]; exact hi), List.getElem?_map, List.getElem?_eq_getElem hi]
      cases e
      exact ⟨_, rfl, .d _⟩
    · rw [List.getElem?_append_right (by rw [List.length_map]; omega), List.getElem?_replicate, List.length_map] at e
      rw [List.getElem?_append_right (by rw [List.length_map]; omega), List.getElem?_replicate, List.length_map]
      split at e
      · rename_i h
        cases e
        exact ⟨none, if_pos h, .no⟩
      · cases e
theorem dis_startS {p : Addr} {N : Nat} {ds : List PyData} : Dis (startS N p ds) := fun i j q b b' e _ => by
  exfalso
  unfold startS at e
  cases i with
  | zero => cases e
  | succ i =>
    rw [List.getElem?_cons_succ] at e
    by_cases hi : i < ds.length
    · rw [List.getElem?_append_left (by rw [List.length_map]; exact hi), List.getElem?_map, List.getElem?_eq_getElem hi] at e
      cases e
    · rw [List.getElem?_append_right (by rw [List.length_map]; omega), List.getElem?_replicate] at e
      split at e <;> cases e
theorem fn_okS {x : Str} {st : Stmt} {f : Addr} {fd : FuncData} {N ps : List Str} {k n c0 c : Nat} {κ : Bool} {s : AS} {ts : TS} {Φ : Stt → Prop} (F : Fun K x x st f fd) (Sc : FnScope N ps (defScope st)) (hn : ps.length = n + 1)
    (hb : ∀ (S : Stt), Φ S → ∀ (cdv : Value) (A : Around) (outer : List Env) (s0 : Shared) (H : Hp) (E : XK), Room k (A.deeper (envOfC x (defScope st) s0.heap.objs.size f cdv)) →
      PVss (cxOf CX0 P w K mg base N x (defScope st) f cdv A outer s0 H E).nox S κ c0 (defBody st) ts s) (hc : c0 ≤ c := by exact Nat.le_of_ble_eq_true rfl) :
    FnOk P w K mg base CX0 (k + 1) f fd ps (spWS Φ c κ (fnWS κ n N.length s)) := by
  refine F.ok Sc (fun vs H Q E h => ?_) (fun cdv A outer s0 H vs Q E hr h => ?_)
  · obtain ⟨A, S, us, ds, P, _, rfl, hd, _, _, _, _, _, _, ⟨hl, _⟩, _⟩ := h
    rw [List.length_cons, hd.length, hl, hn]
  · obtain ⟨A', S, us, ds, P, hΦ, rfl, hd, ht, hcs, hs, n0, hB, hI, ⟨hl, hw⟩, q⟩ := h
    have B := hb S hΦ cdv A outer s0 H E hr
    refine ⟨ts, B.pe, ?_⟩
    rw [← hl] at hw
    have E0 := env_st (N := N) (k := c0 + 0) hd ht hs hcs (n := n0) (B := n0 + c0) (by omega) hI
    have ok0 : Ok S (mSt S (n0 + c0) A' H) := ⟨rfl, rfl, ⟨n0 + c0, by omega, rfl⟩, carried_in⟩
    have R0 : Rep S ⟨H, A', [], n0 + c0, ht⟩ (c0 + 0) (.st :: (ds.map .d ++ List.replicate (N.length - (ds.length + 1)) .no)) (L2.start N (.ref S.p :: us)) H := ⟨mSt S (n0 + c0) A' H, _, ⟨rfl, ok0, rfl, fun _ h => h, fun x h => absurd h (by simp)⟩, mt_startS, dis_startS, E0⟩
    have rt : ∀ v H' d, RetV S ⟨H, A', [], n0 + c0, ht⟩ κ v H' d → P d → Q v H' := fun v H' d ⟨m, Γ, σ, f, E', k⟩ hP => by
      refine q v d H' (fun a o h n => ?_) ?_ ?_ hP
      · have hm : ¬ m.M a := by rw [f.ok.hM]; exact n
        exact E'.fr a o (by rw [f.hH]; exact h) hm
      · obtain ⟨n, hn, h⟩ := E'.inv
        rw [f.ok.hI] at h
        rw [f.hB] at hn
        exact S.up h (by show n ≤ n0 + c; have : n + 0 ≤ n0 + c0 := hn; omega)
      · rcases k with ⟨rfl, o⟩ | ⟨rfl, p, xs, es, rfl, rfl, h0, hM, hp, o⟩
        · exact .inl ⟨rfl, o.to fun a o h n => ⟨h, fun z => n (f.sub a z)⟩⟩
        · refine .inr ⟨rfl, p, xs, es, rfl, rfl, ?_, hp, o⟩
          rw [f.hH] at h0
          exact h0
    refine B.ev ⟨H, A', [], n0 + c0, ht⟩ _ { nx := fun _ => κ = false ∧ P .none, rt := P } _ _ H 0 ⟨fun a σ H' ⟨m, Γ, f, mt, d, E'⟩ k => rt .non H' .none ⟨m, Γ, σ, f, E', .inl ⟨k.1, .non⟩⟩ k.2, rt, fun a σ H' _ k => k.elim, fun a σ H' _ k => k.elim⟩ R0 hw
end

/-! ### calls -/
def aCall (W : List PyData → (PyData → Prop) → Prop) (aa : AN) : AE := fun a Q => aa a fun ds => W ds Q
def aCallN (W : List PyData → (PyData → Prop) → Prop) (aa : AN) : AN := fun a Q => aa a fun ds => W ds fun d => match d with
  | .list es => Q es
  | _ => False
/-- .. of the state in slot i -/
def aCallS (i : Nat) (W : List PyData → (PyData → Prop) → Prop) (aa : AN) : AE := fun a Q => match a[i]? with
  | some .st => aa a fun ds => W ds Q
  | _ => False
def aCallSN (i : Nat) (W : List PyData → (PyData → Prop) → Prop) (aa : AN) : AN := fun a Q => match a[i]? with
  | some .st => aa a fun ds => W ds fun d => match d with
    | .list es => Q es
    | _ => False
  | _ => False
def aCallKw (W : List PyData → (PyData → Prop) → Prop) (π : List Nat) (aa : AN) : AE := fun a Q => aa a fun es => W (π.map fun i => es.getD i .none) Q
def aCallKwN (W : List PyData → (PyData → Prop) → Prop) (π : List Nat) (aa : AN) : AN := fun a Q => aa a fun es => W (π.map fun i => es.getD i .none) fun d => match d with
  | .list es => Q es
  | _ => False
section
variable {S : Stt} {ta : TA} {aa : AN} {W : List PyData → (PyData → Prop) → Prop} {Ex : XK} {n : Option Nat} {Φ : Stt → Prop} {i : Nat} {π : List Nat}
theorem evw_call (h : EvAs S c_ta n ta aa) : EvW S c_ta (tCall (spW S.cs false W) [] Ex ta) (aCall W aa) := fun m Γ a Q ok mt hh σ H E R q =>
  h m Γ a _ ok mt hh σ H E.le _ fun vs ds H1 _ s o k => ⟨m.A, ds, Q, by rw [List.append_nil]; exact o, (E.step (r := 0) s).trk, fun c hc => (E.step (r := 0) s).ex _ (ok.cs c hc), k, fun v d H2 kp r p => by
    rcases r with ⟨_, r⟩ | ⟨z, _⟩
    · exact q v H2 (s.trans (Stp.ext kp)).le ⟨d, r, p⟩
    · cases z⟩
theorem evn_call (h : EvAs S c_ta n ta aa) : EvN S c_ta (tCall (spW S.cs true W) [] Ex ta) (aCallN W aa) := fun m Γ a Q ok mt hh σ H E R q =>
  h m Γ a _ ok mt hh σ H E.le _ fun vs ds H1 _ s o k => ⟨m.A, ds, _, by rw [List.append_nil]; exact o, (E.step (r := 0) s).trk, fun c hc => (E.step (r := 0) s).ex _ (ok.cs c hc), k, fun v d H2 kp r p => by
    rcases r with ⟨z, _⟩ | ⟨_, b, xs, es, rfl, rfl, hn, hp, r⟩
    · cases z
    · exact q b xs es H2 (s.trans (Stp.ext kp)).le (Vc.Env.back E s hn) hp r p⟩
theorem evw_callS {c_f : Nat} (h : EvAs S c_ta n ta aa) (hΦ : Φ S) : EvW S (c_ta + c_f) (tCall (spWS Φ c_f false W) [] Ex (tCons (tVar i) ta)) (aCallS i W aa) := fun m Γ a Q ok mt hh σ H E R q => by
  unfold aCallS at hh
  split at hh
  · rename_i e
    obtain ⟨v, h1, h2⟩ := E.sl i _ (mt.st e)
    have e2 : v = V.ref S.p := h2
    subst e2
    refine ⟨_, h1, h m Γ a _ ok mt hh σ H E.le _ fun vs ds H1 _ s o k => ?_⟩
    have E1 : Env m c_f Γ σ H1 := E.step s
    obtain ⟨n, ho, hI⟩ := E1.inv
    obtain ⟨B, hB, eB⟩ := ok.ok
    rw [ok.hI] at hI
    rw [eB] at ho
    have ho' : n + c_f ≤ B := ho
    obtain ⟨n0, hI0, hle, hmin⟩ := S.least hI
    have st : ∀ H2, (∀ a o, H1 a = some o → ¬ S.M a → H2 a = some o) → S.I (n0 + c_f) H2 → Stp m c_f H1 H2 := fun H2 kp hS => ⟨fun b o e n => kp b o e (by rw [← ok.hM]; exact n), fun n' _ hI2 => by
      rw [ok.hI] at hI2 ⊢
      exact S.up hS (by have := hmin _ hI2; omega)⟩
    refine ⟨m.A, S, vs, ds, Q, hΦ, by rw [List.append_nil], o, E1.trk, fun c hc => E1.ex _ (ok.cs c hc), fun a ha => E1.sub a (by rw [ok.hM]; exact ha), n0, by omega, hI0, k, fun v d H2 kp hS r p => ?_⟩
    rcases r with ⟨_, r⟩ | ⟨z, _⟩
    · exact q v H2 (s.trans (st H2 kp hS)).le ⟨d, r, p⟩
    · cases z
  · exact hh.elim
theorem evn_callS {c_f : Nat} (h : EvAs S c_ta n ta aa) (hΦ : Φ S) : EvN S (c_ta + c_f) (tCall (spWS Φ c_f true W) [] Ex (tCons (tVar i) ta)) (aCallSN i W aa) := fun m Γ a Q ok mt hh σ H E R q => by
  unfold aCallSN at hh
  split at hh
  · rename_i e
    obtain ⟨v, h1, h2⟩ := E.sl i _ (mt.st e)
    have e2 : v = V.ref S.p := h2
    subst e2
    refine ⟨_, h1, h m Γ a _ ok mt hh σ H E.le _ fun vs ds H1 _ s o k => ?_⟩
    have E1 : Env m c_f Γ σ H1 := E.step s
    obtain ⟨n, ho, hI⟩ := E1.inv
    obtain ⟨B, hB, eB⟩ := ok.ok
    rw [ok.hI] at hI
    rw [eB] at ho
    have ho' : n + c_f ≤ B := ho
    obtain ⟨n0, hI0, hle, hmin⟩ := S.least hI
    have st : ∀ H2, (∀ a o, H1 a = some o → ¬ S.M a → H2 a = some o) → S.I (n0 + c_f) H2 → Stp m c_f H1 H2 := fun H2 kp hS => ⟨fun b o e n => kp b o e (by rw [← ok.hM]; exact n), fun n' _ hI2 => by
      rw [ok.hI] at hI2 ⊢
      exact S.up hS (by have := hmin _ hI2; omega)⟩
    refine ⟨m.A, S, vs, ds, _, hΦ, by rw [List.append_nil], o, E1.trk, fun c hc => E1.ex _ (ok.cs c hc), fun a ha => E1.sub a (by rw [ok.hM]; exact ha), n0, by omega, hI0, k, fun v d H2 kp hS r p => ?_⟩
    rcases r with ⟨z, _⟩ | ⟨_, b, xs, es, rfl, rfl, hn, hp, r⟩
    · cases z
    · exact q b xs es H2 (s.trans (st H2 kp hS)).le (Vc.Env.back E.le s hn) hp r p
  · exact hh.elim
theorem evw_callKw (h : EvAs S c_ta (some π.length) ta aa) : EvW S c_ta (tCallKw (spW S.cs false W) π Ex ta) (aCallKw W π aa) := fun m Γ a Q ok mt hh σ H E R q =>
  h m Γ a _ ok mt hh σ H E.le _ fun vs ds H1 hn s o k => ⟨by rw [o.length, hn _ rfl], m.A, _, Q, pick_data o π, (E.step (r := 0) s).trk, fun c hc => (E.step (r := 0) s).ex _ (ok.cs c hc), k, fun v d H2 kp r p => by
    rcases r with ⟨_, r⟩ | ⟨z, _⟩
    · exact q v H2 (s.trans (Stp.ext kp)).le ⟨d, r, p⟩
    · cases z⟩
theorem evn_callKw (h : EvAs S c_ta (some π.length) ta aa) : EvN S c_ta (tCallKw (spW S.cs true W) π Ex ta) (aCallKwN W π aa) := fun m Γ a Q ok mt hh σ H E R q =>
  h m Γ a _ ok mt hh σ H E.le _ fun vs ds H1 hn s o k => ⟨by rw [o.length, hn _ rfl], m.A, _, _, pick_data o π, (E.step (r := 0) s).trk, fun c hc => (E.step (r := 0) s).ex _ (ok.cs c hc), k, fun v d H2 kp r p => by
    rcases r with ⟨z, _⟩ | ⟨_, b, xs, es, rfl, rfl, hn, hp, r⟩
    · cases z
    · exact q b xs es H2 (s.trans (Stp.ext kp)).le (Vc.Env.back E s hn) hp r p⟩
end
section
variable {X : Cx} {S : Stt} {e : Expr} {es : List Expr} {te : TE} {ta : TA} {aa : AN} {W : List PyData → (PyData → Prop) → Prop} {Ex : XK} {n : Option Nat} {Φ : Stt → Prop} {i k : Nat} {CX : CXT} {f : Addr} {fd : FuncData} {ps : List Str} {x : Str} {p pos : Pos}
theorem c_call {cs : List (Addr × PyData)} (hS : S.cs = cs) (F : FnOk X.prog X.w X.K X.mg X.base CX k f fd ps (spW cs false W)) (hr : Room k X.A) (hg : Gl X x) (hm : X.mg x = some (.ref f)) (hk : PySem.W.keepIn X.K (.ref f) = true) (hb : Binds X.K fd ps []) (hx : Passes CX X Ex)
    (ha : PVA X S c_ta n (e :: es) ta aa) (hdb : (x == ("__debug__" : Str)) = false := by decide) (he : starEach (e :: es) X.env = (false, eval e X.env) :: starEach es X.env := by rfl) (hpl : (backTo pos (starEach es X.env)).any (·.1) = false := by rfl) :
    PV X S c_ta (.Call (.Name x p) (e :: es) [] pos) (tCall (spW cs false W) [] Ex ta) (aCall W aa) := by
  subst hS
  exact ⟨pe_call F hr hg hm hk hb .nil hx ha.pe hdb he hpl, evw_call ha.ev⟩
theorem c_callN {cs : List (Addr × PyData)} (hS : S.cs = cs) (F : FnOk X.prog X.w X.K X.mg X.base CX k f fd ps (spW cs true W)) (hr : Room k X.A) (hg : Gl X x) (hm : X.mg x = some (.ref f)) (hk : PySem.W.keepIn X.K (.ref f) = true) (hb : Binds X.K fd ps []) (hx : Passes CX X Ex)
    (ha : PVA X S c_ta n (e :: es) ta aa) (hdb : (x == ("__debug__" : Str)) = false := by decide) (he : starEach (e :: es) X.env = (false, eval e X.env) :: starEach es X.env := by rfl) (hpl : (backTo pos (starEach es X.env)).any (·.1) = false := by rfl) :
    PVN X S c_ta (.Call (.Name x p) (e :: es) [] pos) (tCall (spW cs true W) [] Ex ta) (aCallN W aa) := by
  subst hS
  exact ⟨pe_call F hr hg hm hk hb .nil hx ha.pe hdb he hpl, evn_call ha.ev⟩
theorem c_callS (i : Nat) {c_f : Nat} {y : Str} {yp : Pos} (hΦ : Φ S) (F : FnOk X.prog X.w X.K X.mg X.base CX k f fd ps (spWS Φ c_f false W)) (hr : Room k X.A) (hg : Gl X x) (hm : X.mg x = some (.ref f)) (hk : PySem.W.keepIn X.K (.ref f) = true) (hb : Binds X.K fd ps []) (hx : Passes CX X Ex)
    (ha : PVA X S c_ta n es ta aa) (hs : starEach (.Name y yp :: es) X.env = (false, eval (.Name y yp) X.env) :: starEach es X.env := by rfl) (hN : X.N[i]? = some y := by rfl) (hv : Vis X.env.scope y := by first | exact Or.inl rfl | exact Or.inr (Or.inl rfl) | exact Or.inr (Or.inr rfl)) (hd : (y == ("__debug__" : Str)) = false := by decide)
    (hcd : (y == ("__classdict__" : Str)) = false := by decide) (hdb : (x == ("__debug__" : Str)) = false := by decide) (hpl : (backTo pos (starEach es X.env)).any (·.1) = false := by rfl) :
    PV X S (c_ta + c_f) (.Call (.Name x p) (.Name y yp :: es) [] pos) (tCall (spWS Φ c_f false W) [] Ex (tCons (tVar i) ta)) (aCallS i W aa) := ⟨pe_call F hr hg hm hk hb .nil hx (pa_cons (pe_var hN hv hd hcd) ha.pe hs) hdb hs hpl, evw_callS ha.ev hΦ⟩
theorem c_callSN (i : Nat) {c_f : Nat} {y : Str} {yp : Pos} (hΦ : Φ S) (F : FnOk X.prog X.w X.K X.mg X.base CX k f fd ps (spWS Φ c_f true W)) (hr : Room k X.A) (hg : Gl X x) (hm : X.mg x = some (.ref f)) (hk : PySem.W.keepIn X.K (.ref f) = true) (hb : Binds X.K fd ps []) (hx : Passes CX X Ex)
    (ha : PVA X S c_ta n es ta aa) (hs : starEach (.Name y yp :: es) X.env = (false, eval (.Name y yp) X.env) :: starEach es X.env := by rfl) (hN : X.N[i]? = some y := by rfl) (hv : Vis X.env.scope y := by first | exact Or.inl rfl | exact Or.inr (Or.inl rfl) | exact Or.inr (Or.inr rfl)) (hd : (y == ("__debug__" : Str)) = false := by decide)
    (hcd : (y == ("__classdict__" : Str)) = false := by decide) (hdb : (x == ("__debug__" : Str)) = false := by decide) (hpl : (backTo pos (starEach es X.env)).any (·.1) = false := by rfl) :
    PVN X S (c_ta + c_f) (.Call (.Name x p) (.Name y yp :: es) [] pos) (tCall (spWS Φ c_f true W) [] Ex (tCons (tVar i) ta)) (aCallSN i W aa) := ⟨pe_call F hr hg hm hk hb .nil hx (pa_cons (pe_var hN hv hd hcd) ha.pe hs) hdb hs hpl, evn_callS ha.ev hΦ⟩
end
end Vc

set_option Elab.async false
set_option linter.all false
set_option maxRecDepth 100000
set_option maxHeartbeats 2000000
/-! Built-ins; calls by keywords. -/
namespace Vc
open PySem PySem.Spec PyProof.Rows L2 PySem.W Lh

/-! ### isinstance -/
def isInt : PyData → Bool
  | .int _ => true
  | .bool _ => true
  | _ => false
def isStr : PyData → Bool
  | .str _ => true
  | _ => false
def isBool : PyData → Bool
  | .bool _ => true
  | _ => false
def isTup : PyData → Bool
  | .tuple _ => true
  | _ => false
def isList : PyData → Bool
  | .list _ => true
  | _ => false
def isDict : PyData → Bool
  | .dict _ => true
  | _ => false
def tyN : PyData → String
  | .none => "NoneType"
  | .bool _ => "bool"
  | .int _ => "int"
  | .str _ => "str"
  | .list _ => "list"
  | .tuple _ => "tuple"
  | .dict _ => "dict"
/-- an instance's data, not a dict's -/
def isO : List (PyData × PyData) → Bool
  | (.list _, _) :: _ => true
  | _ => false
/-- no instance -/
def noO : PyData → Bool
  | .dict ds => !isO ds
  | _ => true
/-- P, and of a dict that it is one -/
def okO : PyData → Prop → Prop
  | .dict ds, P => isO ds = false ∧ P
  | _, P => P
theorem okO.get {d : PyData} {P : Prop} (h : okO d P) : noO d = true ∧ P := by
  cases d with
  | dict ds => exact ⟨by show (!isO ds) = true; rw [h.1]; rfl, h.2⟩
  | _ => exact ⟨rfl, h⟩
theorem ty_of {K : Frag} {A : Addr → Prop} {H : Hp} {v : V} {d : PyData} (o : Dq A H v d) (hn : noO d = true) : TyX K H v (.type (tyN d)) := by
  cases o with
  | non => exact .base .non
  | bl b => exact .base (.bl b)
  | int i => exact .base (.int i)
  | str x => exact .base (.str x)
  | lst h _ _ => exact .base (.lst h)
  | tup h _ _ =>
    rcases h with h | ⟨_, _, h⟩
    · exact .base (.tup h)
    · exact .fTuple h
  | dct h _ _ _ =>
    rcases h with h | ⟨_, h⟩
    · exact .base (.dK h)
    · exact .fDict h
  | obj _ _ _ _ => cases hn
/-- f says whether a datum is of the type n -/
def IsTy (n : String) (f : PyData → Bool) : Prop := ∀ d, kitB (tyN d) n = some (f d)
theorem ty_int : IsTy "int" isInt
  | .none => (by decide +kernel : kitB "NoneType" "int" = some false)
  | .bool _ => (by decide +kernel : kitB "bool" "int" = some true)
  | .int _ => (by decide +kernel : kitB "int" "int" = some true)
  | .str _ => (by decide +kernel : kitB "str" "int" = some false)
  | .list _ => (by decide +kernel : kitB "list" "int" = some false)
  | .tuple _ => (by decide +kernel : kitB "tuple" "int" = some false)
  | .dict _ => (by decide +kernel : kitB "dict" "int" = some false)
theorem ty_str : IsTy "str" isStr
  | .none => (by decide +kernel : kitB "NoneType" "str" = some false)
  | .bool _ => (by decide +kernel : kitB "bool" "str" = some false)
  | .int _ => (by decide +kernel : kitB "int" "str" = some false)
  | .str _ => (by decide +kernel : kitB "str" "str" = some true)
  | .list _ => (by decide +kernel : kitB "list" "str" = some false)
  | .tuple _ => (by decide +kernel : kitB "tuple" "str" = some false)
  | .dict _ => (by decide +kernel : kitB "dict" "str" = some false)
theorem ty_bool : IsTy "bool" isBool
  | .none => (by decide +kernel : kitB "NoneType" "bool" = some false)
  | .bool _ => (by decide +kernel : kitB "bool" "bool" = some true)
  | .int _ => (by decide +kernel : kitB "int" "bool" = some false)
  | .str _ => (by decide +kernel : kitB "str" "bool" = some false)
  | .list _ => (by decide +kernel : kitB "list" "bool" = some false)
  | .tuple _ => (by decide +kernel : kitB "tuple" "bool" = some false)
  | .dict _ => (by decide +kernel : kitB "dict" "bool" = some false)
theorem ty_tup : IsTy "tuple" isTup
  | .none => (by decide +kernel : kitB "NoneType" "tuple" = some false)
  | .bool _ => (by decide +kernel : kitB "bool" "tuple" = some false)
  | .int _ => (by decide +kernel : kitB "int" "tuple" = some false)
  | .str _ => (by decide +kernel : kitB "str" "tuple" = some false)
  | .list _ => (by decide +kernel : kitB "list" "tuple" = some false)
  | .tuple _ => (by decide +kernel : kitB "tuple" "tuple" = some true)
  | .dict _ => (by decide +kernel : kitB "dict" "tuple" = some false)
theorem ty_list : IsTy "list" isList
  | .none => (by decide +kernel : kitB "NoneType" "list" = some false)
  | .bool _ => (by decide +kernel : kitB "bool" "list" = some false)
  | .int _ => (by decide +kernel : kitB "int" "list" = some false)
  | .str _ => (by decide +kernel : kitB "str" "list" = some false)
  | .list _ => (by decide +kernel : kitB "list" "list" = some true)
  | .tuple _ => (by decide +kernel : kitB "tuple" "list" = some false)
  | .dict _ => (by decide +kernel : kitB "dict" "list" = some false)
theorem ty_dict : IsTy "dict" isDict
  | .none => (by decide +kernel : kitB "NoneType" "dict" = some false)
  | .bool _ => (by decide +kernel : kitB "bool" "dict" = some false)
  | .int _ => (by decide +kernel : kitB "int" "dict" = some false)
  | .str _ => (by decide +kernel : kitB "str" "dict" = some false)
  | .list _ => (by decide +kernel : kitB "list" "dict" = some false)
  | .tuple _ => (by decide +kernel : kitB "tuple" "dict" = some false)
  | .dict _ => (by decide +kernel : kitB "dict" "dict" = some true)
def aIsi (f : PyData → Bool) (fe : AE) : AE := fun a Q => fe a fun x => okO x (Q (.bool (f x)))
/-- a list of its own is a list -/
def aIsiS (fl : AL) : AE := fun a Q => fl a fun t _ => Q (.bool (!t))
section
variable {X : Cx} {S : Stt} {e e2 : Expr} {es : List Expr} {te t2 : TE} {fe fe2 : AE} {fl : AL} {ta : TA} {aa : AN} {pos p p1 : Pos} {K : Frag} {x : Str} {id T : String} {n : Option Nat} {r : List V → Hp → VK → Prop}
theorem evw_isi {n : String} {f : PyData → Bool} (hf : IsTy n f) (h : EvW S c_te te fe) : EvW S c_te (tCB (rIsi K) (tCons te (tCons (tC (.ty n)) tNil))) (aIsi f fe) := fun m Γ a Q ok mt hh σ H E R q =>
  h m Γ a _ ok mt hh σ H E.le _ fun v H1 s ⟨d, o, k⟩ => ⟨v, .ty n, _, .type n, f d, rfl, .ty n, ty_of o k.get.1, kit_ty (hf d), q _ H1 s ⟨_, .bl _, k.get.2⟩⟩
theorem c_isi (K : Frag) {n : String} {f : PyData → Bool} {y : Str} {yp : Pos} (hf : IsTy n f) (hm : X.mg "isinstance" = none) (hmy : X.mg y = none) (hvy : bootBuiltins y = some (.type n)) (ha : PV X S c_te e te fe) (hg : Gl X "isinstance" := by rfl) (hgy : Gl X y := by rfl)
    (hny : y ≠ "__name__" := by decide) (hdy : (y == ("__debug__" : Str)) = false := by decide) (hs1 : starEach [.Name y yp] X.env = (false, eval (.Name y yp) X.env) :: starEach [] X.env := by rfl) (hs2 : starEach [e, .Name y yp] X.env = (false, eval e X.env) :: starEach [.Name y yp] X.env := by rfl)
    (hpl : (backTo pos (starEach [.Name y yp] X.env)).any (·.1) = false := by rfl) (hK : X.K = K := by rfl) :
    PV X S c_te (.Call (.Name "isinstance" p) [e, .Name y yp] [] pos) (tCB (rIsi K) (tCons te (tCons (tC (.ty n)) tNil))) (aIsi f fe) :=
  ⟨pe_callB (k_isi K hK) hg hm (by decide +kernel) (pa_cons ha.pe (pa_cons (k_tyN n hgy hmy hvy hny hdy) pa_nil hs1) hs2) (by decide) (by decide) hs2 hpl, evw_isi hf ha.ev⟩
/-- isinstance(x, (list, tuple)) -/
theorem evw_isi2 {n1 n2 : String} {f1 f2 : PyData → Bool} (h1 : IsTy n1 f1) (h2 : IsTy n2 f2) (h : EvW S c_te te fe) : EvW S c_te (tCB (rIsiT K) (tCons te (tCons (tTup (tCons (tC (.ty n1)) (tCons (tC (.ty n2)) tNil))) tNil))) (aIsi (fun d => f1 d || f2 d) fe) := fun m Γ a Q ok mt hh σ H E R q =>
  h m Γ a _ ok mt hh σ H E.le _ fun v H1 s ⟨d, o, k⟩ => ⟨len_line (Nat.le_of_ble_eq_true rfl : 2 ≤ 1000), fun T hT => by
    have o2 : Dq m.A (upd H1 T (.tup [.ty n1, .ty n2])) v d := o.to ((Stp.new hT : Stp m 0 H1 _).to E.sub)
    refine ⟨v, T, [.ty n1, .ty n2], _, [.type n1, .type n2], f1 d || f2 d, rfl, upd_same, .cons (.ty n1) (.cons (.ty n2) .nil), ty_of o2 k.get.1, kitAny_cons (kit_ty (h1 d)) (fun e => kitAny_cons (r := f1 d || f2 d) (kit_ty (h2 d)) (fun e' => ?_) fun e' => ?_) (fun e => ?_), q _ _ (s.trans (Stp.new hT)).le ⟨_, .bl _, k.get.2⟩⟩
    · rw [e, e']
      rfl
    · rw [e', Bool.or_true]
    · rw [e, Bool.true_or]⟩
theorem c_isi2 (K : Frag) {n1 n2 : String} {f1 f2 : PyData → Bool} {y1 y2 : Str} {p2 p3 p4 : Pos} {kk : Nat} (h1 : IsTy n1 f1) (h2 : IsTy n2 f2) (hm : X.mg "isinstance" = none) (hm1 : X.mg y1 = none) (hv1 : bootBuiltins y1 = some (.type n1)) (hm2 : X.mg y2 = none) (hv2 : bootBuiltins y2 = some (.type n2)) (ha : PV X S c_te e te fe)
    (hg : Gl X "isinstance" := by rfl) (hg1 : Gl X y1 := by rfl) (hg2 : Gl X y2 := by rfl) (hn1 : y1 ≠ "__name__" := by decide) (hd1 : (y1 == ("__debug__" : Str)) = false := by decide) (hn2 : y2 ≠ "__name__" := by decide) (hd2 : (y2 == ("__debug__" : Str)) = false := by decide)
    (hs1 : starEach [.Name y2 p3] X.env = (false, eval (.Name y2 p3) X.env) :: starEach [] X.env := by rfl) (hs2 : starEach [.Name y1 p2, .Name y2 p3] X.env = (false, eval (.Name y1 p2) X.env) :: starEach [.Name y2 p3] X.env := by rfl)
    (hs3 : starEach [.Tuple [.Name y1 p2, .Name y2 p3] kk p4] X.env = (false, eval (.Tuple [.Name y1 p2, .Name y2 p3] kk p4) X.env) :: starEach [] X.env := by rfl) (hs4 : starEach [e, .Tuple [.Name y1 p2, .Name y2 p3] kk p4] X.env = (false, eval e X.env) :: starEach [.Tuple [.Name y1 p2, .Name y2 p3] kk p4] X.env := by rfl)
    (hpl : (backTo pos (starEach [.Tuple [.Name y1 p2, .Name y2 p3] kk p4] X.env)).any (·.1) = false := by rfl) (hK : X.K = K := by rfl) :
    PV X S c_te (.Call (.Name "isinstance" p) [e, .Tuple [.Name y1 p2, .Name y2 p3] kk p4] [] pos) (tCB (rIsiT K) (tCons te (tCons (tTup (tCons (tC (.ty n1)) (tCons (tC (.ty n2)) tNil))) tNil))) (aIsi (fun d => f1 d || f2 d) fe) :=
  ⟨pe_callB (hK ▸ call_isiT) hg hm (by decide +kernel) (pa_cons ha.pe (pa_cons (pe_tup (pa_cons (k_tyN n1 hg1 hm1 hv1 hn1 hd1) (pa_cons (k_tyN n2 hg2 hm2 hv2 hn2 hd2) pa_nil hs1) hs2)) pa_nil hs3) hs4) (by decide) (by decide) hs4 hpl, evw_isi2 h1 h2 ha.ev⟩

/-! ### one list or tuple -/
theorem c_rd {g : Bool → List PyData → (PyData → Prop) → Prop} (hc : CallR X (.builtin id) r) (hd : RdD S r g) (hm : X.mg x = none) (hv : bootBuiltins x = some (.builtin id)) (ha : PVS X S c_te e te fl) (hg : Gl X x := by rfl) (hn : x ≠ "__name__" := by decide) (hdb : (x == ("__debug__" : Str)) = false := by decide)
    (he : starEach [e] X.env = (false, eval e X.env) :: starEach [] X.env := by rfl) (hpl : (backTo pos (starEach [] X.env)).any (·.1) = false := by rfl) : PV X S c_te (.Call (.Name x p) [e] [] pos) (tCB r (tCons te tNil)) (aR g fl) :=
  ⟨pe_callB hc hg hm hv (pa_cons ha.pe pa_nil he) hn hdb he hpl, evw_rd hd ha.ev⟩
theorem c_rdT {g : Bool → List PyData → (PyData → Prop) → Prop} (hc : CallR X (.type T) r) (hd : RdD S r g) (hm : X.mg x = none) (hv : bootBuiltins x = some (.type T)) (ha : PVS X S c_te e te fl) (hg : Gl X x := by rfl) (hn : x ≠ "__name__" := by decide) (hdb : (x == ("__debug__" : Str)) = false := by decide)
    (he : starEach [e] X.env = (false, eval e X.env) :: starEach [] X.env := by rfl) (hpl : (backTo pos (starEach [] X.env)).any (·.1) = false := by rfl) : PV X S c_te (.Call (.Name x p) [e] [] pos) (tCB r (tCons te tNil)) (aR g fl) :=
  ⟨pe_callTy hc hg hm hv (pa_cons ha.pe pa_nil he) hn hdb he hpl, evw_rd hd ha.ev⟩
theorem c_rn {g : Bool → List PyData → (List PyData → Prop) → Prop} (hc : CallR X (.builtin id) r) (hd : RnD S r g) (hm : X.mg x = none) (hv : bootBuiltins x = some (.builtin id)) (ha : PVS X S c_te e te fl) (hg : Gl X x := by rfl) (hn : x ≠ "__name__" := by decide) (hdb : (x == ("__debug__" : Str)) = false := by decide)
    (he : starEach [e] X.env = (false, eval e X.env) :: starEach [] X.env := by rfl) (hpl : (backTo pos (starEach [] X.env)).any (·.1) = false := by rfl) : PVN X S c_te (.Call (.Name x p) [e] [] pos) (tCB r (tCons te tNil)) (aRN g fl) :=
  ⟨pe_callB hc hg hm hv (pa_cons ha.pe pa_nil he) hn hdb he hpl, evn_rn hd ha.ev⟩
theorem c_rnT {g : Bool → List PyData → (List PyData → Prop) → Prop} (hc : CallR X (.type T) r) (hd : RnD S r g) (hm : X.mg x = none) (hv : bootBuiltins x = some (.type T)) (ha : PVS X S c_te e te fl) (hg : Gl X x := by rfl) (hn : x ≠ "__name__" := by decide) (hdb : (x == ("__debug__" : Str)) = false := by decide)
    (he : starEach [e] X.env = (false, eval e X.env) :: starEach [] X.env := by rfl) (hpl : (backTo pos (starEach [] X.env)).any (·.1) = false := by rfl) : PVN X S c_te (.Call (.Name x p) [e] [] pos) (tCB r (tCons te tNil)) (aRN g fl) :=
  ⟨pe_callTy hc hg hm hv (pa_cons ha.pe pa_nil he) hn hdb he hpl, evn_rn hd ha.ev⟩

/-! ### data as they are -/
def aB (g : List PyData → (PyData → Prop) → Prop) (aa : AN) : AE := fun a Q => aa a fun ds => g ds Q
def ArD (S : Stt) (r : List V → Hp → VK → Prop) (g : List PyData → (PyData → Prop) → Prop) : Prop := ∀ {m : Md} {Γ : Gam} {σ : L2.St} {H : Hp} {vs : List V} {ds : List PyData} {Q : PyData → Prop} {R : VK}, Ok S m → Env m 0 Γ σ H → DqA m.A H vs ds → g ds Q →
  (∀ v H' d, Stp m 0 H H' → Dq m.A H' v d → Q d → R v H') → r vs H R
theorem evw_ar {g : List PyData → (PyData → Prop) → Prop} (hd : ArD S r g) (h : EvAs S c_ta n ta aa) : EvW S c_ta (tCB r ta) (aB g aa) := fun m Γ a Q ok mt hh σ H E R q =>
  h m Γ a _ ok mt hh σ H E.le _ fun vs ds H1 _ s o k => hd ok (E.step s) o k fun v H2 d s2 o2 k2 => q v H2 (s.trans s2).le ⟨d, o2, k2⟩
theorem c_ar {g : List PyData → (PyData → Prop) → Prop} (hc : CallR X (.builtin id) r) (hd : ArD S r g) (hm : X.mg x = none) (hv : bootBuiltins x = some (.builtin id)) (ha : PVA X S c_ta n (e :: es) ta aa) (hg : Gl X x := by rfl) (hn : x ≠ "__name__" := by decide) (hdb : (x == ("__debug__" : Str)) = false := by decide)
    (he : starEach (e :: es) X.env = (false, eval e X.env) :: starEach es X.env := by rfl) (hpl : (backTo pos (starEach es X.env)).any (·.1) = false := by rfl) : PV X S c_ta (.Call (.Name x p) (e :: es) [] pos) (tCB r ta) (aB g aa) :=
  ⟨pe_callB hc hg hm hv ha.pe hn hdb he hpl, evw_ar hd ha.ev⟩
theorem c_arT {g : List PyData → (PyData → Prop) → Prop} (hc : CallR X (.type T) r) (hd : ArD S r g) (hm : X.mg x = none) (hv : bootBuiltins x = some (.type T)) (ha : PVA X S c_ta n (e :: es) ta aa) (hg : Gl X x := by rfl) (hn : x ≠ "__name__" := by decide) (hdb : (x == ("__debug__" : Str)) = false := by decide)
    (he : starEach (e :: es) X.env = (false, eval e X.env) :: starEach es X.env := by rfl) (hpl : (backTo pos (starEach es X.env)).any (·.1) = false := by rfl) : PV X S c_ta (.Call (.Name x p) (e :: es) [] pos) (tCB r ta) (aB g aa) :=
  ⟨pe_callTy hc hg hm hv ha.pe hn hdb he hpl, evw_ar hd ha.ev⟩
/-- a built-in that the text imports -/
theorem c_arM {g : List PyData → (PyData → Prop) → Prop} (hc : CallR X (.builtin id) r) (hd : ArD S r g) (hm : X.mg x = some (.builtin id)) (ha : PVA X S c_ta n (e :: es) ta aa) (hg : Gl X x := by rfl) (hdb : (x == ("__debug__" : Str)) = false := by decide)
    (he : starEach (e :: es) X.env = (false, eval e X.env) :: starEach es X.env := by rfl) (hpl : (backTo pos (starEach es X.env)).any (·.1) = false := by rfl) : PV X S c_ta (.Call (.Name x p) (e :: es) [] pos) (tCB r ta) (aB g aa) :=
  ⟨pe_callBfun hc hg hm ha.pe hdb he hpl, evw_ar hd ha.ev⟩
def gGcd : List PyData → (PyData → Prop) → Prop := fun ds Q => match ds with
  | [.int i, .int j] => Q (.int ((Nat.gcd i.natAbs j.natAbs : Nat) : Int))
  | _ => False
def gAbs : List PyData → (PyData → Prop) → Prop := fun ds Q => match ds with
  | [.int i] => Q (.int (if i < 0 then -i else i))
  | _ => False
def gMax2 : List PyData → (PyData → Prop) → Prop := fun ds Q => match ds with
  | [.int i, .int j] => Q (.int (if j > i then j else i))
  | _ => False
def gMin2 : List PyData → (PyData → Prop) → Prop := fun ds Q => match ds with
  | [.int i, .int j] => Q (.int (if j < i then j else i))
  | _ => False
/-- len of a text, a list, a tuple -/
def gLenA : List PyData → (PyData → Prop) → Prop := fun ds Q => match ds with
  | [.str z] => z.length ≤ sizeLine ∧ Q (.int z.length)
  | [.list xs] => Q (.int xs.length)
  | [.tuple xs] => Q (.int xs.length)
  | _ => False
def gStrI : List PyData → (PyData → Prop) → Prop := fun ds Q => match ds with
  | [.int i] => i.natAbs.log2 < 1920 ∧ Q (.str (toString i))
  | _ => False
theorem dqa1 {A : Addr → Prop} {H : Hp} {vs : List V} {d : PyData} (o : DqA A H vs [d]) : ∃ v, vs = [v] ∧ Dq A H v d := by
  cases o with
  | cons a b =>
    cases b
    exact ⟨_, rfl, a⟩
theorem dqa2 {A : Addr → Prop} {H : Hp} {vs : List V} {d e : PyData} (o : DqA A H vs [d, e]) : ∃ v w, vs = [v, w] ∧ Dq A H v d ∧ Dq A H w e := by
  cases o with
  | cons a b =>
    obtain ⟨w, rfl, hw⟩ := dqa1 b
    exact ⟨_, _, rfl, a, hw⟩
theorem ar_gcd : ArD S rGcd gGcd := fun {m Γ σ H vs ds Q R} ok E o k q => by
  unfold gGcd at k
  split at k
  · obtain ⟨v, w, rfl, a, b⟩ := dqa2 o
    cases a
    cases b
    exact ⟨_, _, rfl, q _ H _ Stp.refl (.int _) k⟩
  · exact k.elim
theorem ar_abs : ArD S (fun xs H Q => ∃ i, xs = [.int i] ∧ Q (.int (if i < 0 then -i else i)) H) gAbs := fun {m Γ σ H vs ds Q R} ok E o k q => by
  unfold gAbs at k
  split at k
  · obtain ⟨v, rfl, a⟩ := dqa1 o
    cases a
    exact ⟨_, rfl, q _ H _ Stp.refl (.int _) k⟩
  · exact k.elim
theorem ar_max2 : ArD S (fun xs H Q => ∃ i j, xs = [.int i, .int j] ∧ Q (.int (if j > i then j else i)) H) gMax2 := fun {m Γ σ H vs ds Q R} ok E o k q => by
  unfold gMax2 at k
  split at k
  · obtain ⟨v, w, rfl, a, b⟩ := dqa2 o
    cases a
    cases b
    exact ⟨_, _, rfl, q _ H _ Stp.refl (.int _) k⟩
  · exact k.elim
theorem ar_min2 : ArD S (fun xs H Q => ∃ i j, xs = [.int i, .int j] ∧ Q (.int (if j < i then j else i)) H) gMin2 := fun {m Γ σ H vs ds Q R} ok E o k q => by
  unfold gMin2 at k
  split at k
  · obtain ⟨v, w, rfl, a, b⟩ := dqa2 o
    cases a
    cases b
    exact ⟨_, _, rfl, q _ H _ Stp.refl (.int _) k⟩
  · exact k.elim
theorem ar_strI : ArD S (fun xs H Q => ∃ i, xs = [.int i] ∧ i.natAbs.log2 < 1920 ∧ Q (.str (toString i)) H) gStrI := fun {m Γ σ H vs ds Q R} ok E o k q => by
  unfold gStrI at k
  split at k
  · obtain ⟨v, rfl, a⟩ := dqa1 o
    cases a
    exact ⟨_, rfl, k.1, q _ H _ Stp.refl (.str _) k.2⟩
  · exact k.elim
abbrev rLenA (K : Frag) : List V → Hp → VK → Prop := fun xs H Q => ∃ x n, xs = [x] ∧ LenV K x H n ∧ Q (.int n) H
theorem k_lenA (K : Frag) (hK : X.K = K := by rfl) : CallR X (.builtin "len") (rLenA K) := hK ▸ call_len
theorem ar_lenA : ArD S (rLenA K) gLenA := fun {m Γ σ H vs ds Q R} ok E o k q => by
  unfold gLenA at k
  split at k
  · obtain ⟨v, rfl, a⟩ := dqa1 o
    cases a
    exact ⟨_, _, rfl, ⟨k.1, rfl⟩, q _ H _ Stp.refl (.int _) k.2⟩
  · obtain ⟨v, rfl, a⟩ := dqa1 o
    obtain ⟨b, xs, rfl, h1, h2, h3⟩ := Dq.list a
    exact ⟨_, _, rfl, .inl ⟨xs, .inl (.inl h1), rfl⟩, q _ H _ Stp.refl (by rw [h3.length]; exact .int _) k⟩
  · obtain ⟨v, rfl, a⟩ := dqa1 o
    obtain ⟨b, xs, rfl, h1, h2, h3⟩ := Dq.tuple a
    exact ⟨_, _, rfl, .inr ⟨xs, .inl h1, rfl⟩, q _ H _ Stp.refl (by rw [h3.length]; exact .int _) k⟩
  · exact k.elim
end

/-! ### calls by keywords alone -/
structure PVK (X : Cx) (S : Stt) (c : Nat) (n : Option Nat) (kws : List Keyword) (ta : TA) (aa : AN) : Prop where
  pe : PK X kws ta
  ev : EvAs S c n ta aa
section
variable {X : Cx} {S : Stt} {e : Expr} {te : TE} {fe : AE} {tk : TA} {aa : AN} {pos p kpos : Pos} {nm : Option Str} {kws : List Keyword} {n : Option Nat} {CX : CXT} {k : Nat} {f : Addr} {fd : FuncData} {ps ks : List Str} {x : Str} {W : List PyData → (PyData → Prop) → Prop} {Ex : XK} {π : List Nat}
theorem k_nil : PVK X S 0 (some 0) [] tNil aNil := ⟨pk_nil, evas_nil⟩
theorem k_cons (ha : PV X S c_te e te fe) (hr : PVK X S c_tk n kws tk aa) : PVK X S (c_te + c_tk) (n.map (· + 1)) (⟨nm, e, kpos⟩ :: kws) (tCons te tk) (aCons fe aa) := ⟨pk_cons ha.pe hr.pe, evas_cons ha.ev hr.ev⟩
theorem c_kw {cs : List (Addr × PyData)} (hS : S.cs = cs) (F : FnOk X.prog X.w X.K X.mg X.base CX k f fd ps (spW cs false W)) (hr : Room k X.A) (hg : Gl X x) (hm : X.mg x = some (.ref f)) (hk : PySem.W.keepIn X.K (.ref f) = true) (hb : KB X.K fd ps ks π) (hx : Passes CX X Ex) (hkw : PVK X S c_tk (some π.length) kws tk aa)
    (hall : (backToKw pos (keywordEach kws X.env)).all (·.1.isSome) = true := by rfl) (hks : (backToKw pos (keywordEach kws X.env)).filterMap (·.1) = ks := by rfl) (hdb : (x == ("__debug__" : Str)) = false := by decide)
    (hpl : ((backTo pos (starEach [] X.env)).any (·.1) || (backToKw pos (keywordEach kws X.env)).any (·.1.isNone)) = false := by rfl) : PV X S c_tk (.Call (.Name x p) [] kws pos) (tCallKw (spW cs false W) π Ex tk) (aCallKw W π aa) :=
  by
  subst hS
  exact ⟨k_callKw F hr hg hm hk hb hx hkw.pe hall hks hdb hpl, evw_callKw hkw.ev⟩
theorem c_kwN {cs : List (Addr × PyData)} (hS : S.cs = cs) (F : FnOk X.prog X.w X.K X.mg X.base CX k f fd ps (spW cs true W)) (hr : Room k X.A) (hg : Gl X x) (hm : X.mg x = some (.ref f)) (hk : PySem.W.keepIn X.K (.ref f) = true) (hb : KB X.K fd ps ks π) (hx : Passes CX X Ex) (hkw : PVK X S c_tk (some π.length) kws tk aa)
    (hall : (backToKw pos (keywordEach kws X.env)).all (·.1.isSome) = true := by rfl) (hks : (backToKw pos (keywordEach kws X.env)).filterMap (·.1) = ks := by rfl) (hdb : (x == ("__debug__" : Str)) = false := by decide)
    (hpl : ((backTo pos (starEach [] X.env)).any (·.1) || (backToKw pos (keywordEach kws X.env)).any (·.1.isNone)) = false := by rfl) : PVN X S c_tk (.Call (.Name x p) [] kws pos) (tCallKw (spW cs true W) π Ex tk) (aCallKwN W π aa) :=
  by
  subst hS
  exact ⟨k_callKw F hr hg hm hk hb hx hkw.pe hall hks hdb hpl, evn_callKw hkw.ev⟩
end

/-! ### a list that is reckoned and named at once -/
section
variable {X : Cx} {S : Stt} {κ : Bool} {tt : TT} {at_ : AT} {i : Nat} {y : Str} {py : Pos} {elt tg iter : Expr} {ifs : List Expr} {scope : Scope} {own : List (Str × Nat)} {pos spos : Pos} {wi : TI} {ai : AN} {g : TG} {ag : AG} {te : TE} {ae : AE} {us : List Nat}
theorem s_lcN (hc : X.calm = true) (hN : X.N.Nodup) (hy : X.N[i]? = some y) (hyl : X.env.scope.names.lookup y = some .local)
    (hsw : swapsWith (.ListComp elt [⟨tg, iter, ifs, 0⟩] scope pos) (some (.Name y py)) spos.line X.env = pure true) (hi : PVI X S c_wi tg iter wi ai) (ok : BlkOk X.N X.env.scope scope own)
    (hg : ∀ (s : Shared) (H : Hp) (C : Addr) (cl : List (Str × Addr)) (fp : List Addr), PVG (X.blk s H scope (compEnvC scope cl C X.env) fp) S us tg g ag) (ht : ∀ (s : Shared) (H : Hp) (C : Addr) (cl : List (Str × Addr)) (fp : List Addr), PVTs (X.blk s H scope (compEnvC scope cl C X.env) fp) S c_tt ifs tt at_)
    (he : ∀ (s : Shared) (H : Hp) (C : Addr) (cl : List (Str × Addr)) (fp : List Addr), PV (X.blk s H scope (compEnvC scope cl C X.env) fp) S c_te elt te ae) (hu : ∀ i ∈ us, i ∈ own.map (·.2) := by decide) (hs : ∀ x, foldedSetIterable iter X.env x = pure x := by intro _; rfl) :
    PVst X S κ (c_wi + lineN * (c_tt + c_te)) (.Assign [.Name y py] (.ListComp elt [⟨tg, iter, ifs, 0⟩] scope pos) spos) (tAsg (tLc wi g tt te (own.map (·.2))) (gName i)) (aSetN i (aLc ai ag at_ ae (own.map (·.2)))) :=
  ⟨ps_setLc hc hN hy hyl hsw hi.pe ok (fun s H C cl fp => (hg s H C cl fp).pe) (fun s H C cl fp => (ht s H C cl fp).pe) (fun s H C cl fp => (he s H C cl fp).pe) hs,
   stw_setN (evn_lc hi.ev (hg X.s_0 (fun _ => none) 0 [] []).ev hu (ht X.s_0 (fun _ => none) 0 [] []).ev (he X.s_0 (fun _ => none) 0 [] []).ev)⟩
theorem s_lcS (hc : X.calm = true) (hN : X.N.Nodup) (hy : X.N[i]? = some y) (hyl : X.env.scope.names.lookup y = some .local)
    (hsw : swapsWith (.ListComp elt [⟨tg, iter, ifs, 0⟩] scope pos) (some (.Name y py)) spos.line X.env = pure true) (hi : PVI X S c_wi tg iter wi ai) (ok : BlkOk X.N X.env.scope scope own)
    (hg : ∀ (s : Shared) (H : Hp) (C : Addr) (cl : List (Str × Addr)) (fp : List Addr), PVG (X.blk s H scope (compEnvC scope cl C X.env) fp) S us tg g ag) (ht : ∀ (s : Shared) (H : Hp) (C : Addr) (cl : List (Str × Addr)) (fp : List Addr), PVTs (X.blk s H scope (compEnvC scope cl C X.env) fp) S c_tt ifs tt at_)
    (he : ∀ (s : Shared) (H : Hp) (C : Addr) (cl : List (Str × Addr)) (fp : List Addr), PV (X.blk s H scope (compEnvC scope cl C X.env) fp) S c_te elt te ae) (hu : ∀ i ∈ us, i ∈ own.map (·.2) := by decide) (hs : ∀ x, foldedSetIterable iter X.env x = pure x := by intro _; rfl) :
    PVst X S κ (c_wi + lineN * (c_tt + c_te)) (.Assign [.Name y py] (.ListComp elt [⟨tg, iter, ifs, 0⟩] scope pos) spos) (tAsg (tLc wi g tt te (own.map (·.2))) (gName i)) (aSet i (aNE (aLc ai ag at_ ae (own.map (·.2))))) :=
  ⟨ps_setLc hc hN hy hyl hsw hi.pe ok (fun s H C cl fp => (hg s H C cl fp).pe) (fun s H C cl fp => (ht s H C cl fp).pe) (fun s H C cl fp => (he s H C cl fp).pe) hs,
   stw_set (evw_n (evn_lc hi.ev (hg X.s_0 (fun _ => none) 0 [] []).ev hu (ht X.s_0 (fun _ => none) 0 [] []).ev (he X.s_0 (fun _ => none) 0 [] []).ev))⟩
end
section
variable {X : Cx}
theorem k_eqD (K : Frag) (hu : X.A.units + 64 < cLine) (hK : X.K = K := by rfl) : OpR X (compareOp .Eq) (rEqD K) := hK ▸ op_eqD hu
theorem k_neD (K : Frag) (hu : X.A.units + 64 < cLine) (hK : X.K = K := by rfl) : OpR X (compareOp .NotEq) (rNeD K) := hK ▸ op_neD hu
theorem k_inD (K : Frag) (hu : X.A.units + 65 < cLine) (hK : X.K = K := by rfl) : OpR X (compareOp .In) (rInD K) := hK ▸ op_inD hu
theorem k_notInD (K : Frag) (hu : X.A.units + 65 < cLine) (hK : X.K = K := by rfl) : OpR X (compareOp .NotIn) (rNotInD K) := hK ▸ op_notInD hu
theorem k_all (K : Frag) (hc : X.calm = true := by rfl) (hK : X.K = K := by rfl) : CallR X (.builtin "all") (rAll K) := hK ▸ cr_all hc
theorem k_any (K : Frag) (hc : X.calm = true := by rfl) (hK : X.K = K := by rfl) : CallR X (.builtin "any") (rAny K) := hK ▸ cr_any hc
theorem k_sum (K : Frag) (hc : X.calm = true := by rfl) (hK : X.K = K := by rfl) : CallR X (.builtin "sum") (rSum K) := hK ▸ cr_sum hc
end
section
variable {X : Cx} {S : Stt} {pos : Pos} {x : Str}
theorem globS {z : Str} (hm : ∃ t, X.mg x = some (Value.str z t)) (hg : Gl X x := by rfl) (hd : (x == ("__debug__" : Str)) = false := by decide) : PV X S 0 (.Name x pos) (tC (.str z)) (aC (.str z)) := by
  obtain ⟨t, hm⟩ := hm
  exact glob (.str z) hg hm ⟨t, rfl⟩ hd
theorem globI {z : Int} (hm : ∃ t, X.mg x = some (Value.int z t)) (hg : Gl X x := by rfl) (hd : (x == ("__debug__" : Str)) = false := by decide) : PV X S 0 (.Name x pos) (tC (.int z)) (aC (.int z)) := by
  obtain ⟨t, hm⟩ := hm
  exact glob (.int z) hg hm ⟨t, rfl⟩ hd
end
/-! ### places of a list of its own -/
def aPut (i : Nat) (fi fe : AE) : AS := fun En a => fe a fun x => match a[i]? with
  | some (.l xs) => fi a fun k => match k with
    | .int j => ∃ n, ixN xs.length j = some n ∧ En.nx (a.set i (.l (xs.set n x)))
    | _ => False
  | _ => False
theorem DqA.put {A : Addr → Prop} {H : Hp} {v : V} {d : PyData} (o : Dq A H v d) : ∀ {vs : List V} {ds : List PyData} (n : Nat), DqA A H vs ds → DqA A H (vs.set n v) (ds.set n d)
  | _, _, _, .nil => .nil
  | _, _, 0, .cons _ t => .cons o t
  | _, _, n + 1, .cons h t => .cons h (DqA.put o n t)
section
variable {S : Stt} {κ : Bool} {te ti : TE} {fe fi : AE}
theorem stw_put {i : Nat} (he : EvW S c_te te fe) (hi : EvW S c_ti ti fi) : StW S κ (c_te + c_ti) (tAsg te (L2.gSub (tVar i) ti rSetL)) (aPut i fi fe) := fun F De En a σ H kr c ⟨m, Γ, f, mt, d, E⟩ h =>
  he m Γ a _ f.ok mt h σ H E.le _ fun y H1 s ⟨x, oy, k⟩ => by
    have E1 : Env m (c_ti + kr) Γ σ H1 := E.step s
    split at k
    · rename_i xs e
      obtain ⟨q, e⟩ := mt.l e
      obtain ⟨v, h1, rfl, k1, k2, k3, o, k4, zs, rfl, k5⟩ := E1.sl i _ e
      refine ⟨_, h1, hi m Γ a _ f.ok mt k σ H1 E1.le _ fun w H2 s2 ⟨dw, ow, k6⟩ => ?_⟩
      cases dw with
      | int j =>
        cases ow
        obtain ⟨n, hn, k7⟩ := k6
        have a7 := k5.to (s2.to E.sub)
        exact ⟨q, zs, j, n, rfl, rfl, s2.kp _ _ k4 k2, by rw [k5.length]; exact hn, c.nx _ _ _ (Rep.box f d mt (E1.step s2) e (DqA.put (oy.to (s2.to E.sub)) n a7)) k7⟩
      | _ => exact k6.elim
    · exact k.elim
end
section
variable {X : Cx} {S : Stt} {κ : Bool} {e ex : Expr} {te ti : TE} {fe fi : AE} {pos p2 : Pos}
theorem s_put (i : Nat) {x : Str} {np : Pos} (he : PV X S c_te e te fe) (hi : PV X S c_ti ex ti fi) (hN : X.N[i]? = some x := by rfl) (hv : Vis X.env.scope x := by first | exact Or.inl rfl | exact Or.inr (Or.inl rfl) | exact Or.inr (Or.inr rfl)) (hd : (x == ("__debug__" : Str)) = false := by decide)
    (hcd : (x == ("__classdict__" : Str)) = false := by decide) (hs : swapsWithSole [.Subscript (.Name x np) ex p2] e pos.line X.env = pure false := by rfl) (hw : swappedStores [.Subscript (.Name x np) ex p2] e X.env = pure none := by rfl)
    (h1 : (assignEach [.Subscript (.Name x np) ex p2] X.env).map (·.2) = [assign (.Subscript (.Name x np) ex p2) X.env] := by rfl)
    (ha : ∀ v, assign (.Subscript (.Name x np) ex p2) X.env v = (do
      let ov ← holding [v] (eval (.Name x np) X.env)
      let iv ← holding [v, ov] (eval ex X.env)
      standAt p2
      holding [v, ov, iv] (setItem ov iv v)
      release [v, ov, iv] []) := by intro _; rfl) :
    PVst X S κ (c_te + c_ti) (.Assign [.Subscript (.Name x np) ex p2] e pos) (tAsg te (L2.gSub (tVar i) ti rSetL)) (aPut i fi fe) := ⟨ps_asg he.pe (L2.pg_sub (pe_var hN hv hd hcd) hi.pe set_list ha) hs hw h1, stw_put he.ev hi.ev⟩
end
end Vc

set_option Elab.async false
set_option linter.all false
set_option maxRecDepth 100000
set_option maxHeartbeats 4000000
/-! x[::-1] of lists and tuples. -/
namespace HT
open PySem PySem.Spec PyProof.Rows L2
section
variable {prog : Program} {w : World} {A : Around} {E : Value → Shared → Prop} {s : Shared}
theorem sliceApplied_rev {sl : Addr} {t : Tok} {n : Nat} {Q : Int × Int × Nat → Shared → Prop} (hs : s.heap.IsSliceOf sl .none .none (.int (-1) t))
    (h : Q ((n : Int) - 1, -1, n) s) : wpAny (model prog w) A (Builtin.Slice.sliceApplied (.ref sl) (pure (n : Int))) Q E s := by
  obtain ⟨os, hos, hcs, hds⟩ := id hs
  unfold Builtin.Slice.sliceApplied Builtin.Slice.sliceFields
  refine wpAny_bind (wpAny_bind (wpAny_field hos hds (x := .none) rfl (wpAny_bind (wpAny_field hos hds (x := .none) rfl (wpAny_bind (wpAny_field hos hds (x := .int (-1) t) rfl (wpAny_pure ?_)))))))
  refine wpAny_bind (slicePart_int ?_)
  show wpAny _ _ (if ((-1 : Int) == 0) = true then _ else _) _ _ s
  rw [if_neg (by decide)]
  refine wpAny_bind (slicePart_none (wpAny_bind (slicePart_none (wpAny_bind (wpAny_pure ?_)))))
  show wpAny _ _ (match Builtin.Slice.sliceAdjust none none (-1) (n : Int) with | (lo, hi) => pure (lo, (-1 : Int), Builtin.Slice.slicePlaces lo hi (-1))) _ _ s
  have e : Builtin.Slice.sliceAdjust none none (-1) (n : Int) = ((n : Int) - 1, -1) := by
    unfold Builtin.Slice.sliceAdjust
    simp
  rw [e]
  show wpAny _ _ (pure ((n : Int) - 1, (-1 : Int), Builtin.Slice.slicePlaces ((n : Int) - 1) (-1) (-1))) _ _ s
  have e2 : Builtin.Slice.slicePlaces ((n : Int) - 1) (-1) (-1) = n := by
    unfold Builtin.Slice.slicePlaces
    have h1 : ¬ ((-1 : Int) > 0) := by decide
    simp only [h1, if_false]
    split <;> first | omega | (rw [show (- -1 : Int) = 1 by decide, Int.ediv_one]; omega)
  rw [e2]
  exact wpAny_pure h
theorem pick_rev (xs : Array Value) : ((List.range xs.size).filterMap fun (m : Nat) => xs[(((xs.size : Nat) : Int) - 1 + (m : Int) * -1).toNat]?).toArray = xs.toList.reverse.toArray := by
  congr 1
  apply List.ext_getElem?
  intro i
  have hall : ∀ (f : Nat → Option Value) (n : Nat), (∀ m, m < n → (f m).isSome) → ∀ i, ((List.range n).filterMap f)[i]? = if i < n then f i else none := by
    intro f n
    induction n with
    | zero => intro _ i; simp
    | succ n ih =>
      intro h i
      have ih' := ih fun m hm => h m (Nat.lt_succ_of_lt hm)
      rw [List.range_succ, List.filterMap_append]
      have hn := h n (Nat.lt_succ_self n)
      obtain ⟨y, ey⟩ := Option.isSome_iff_exists.mp hn
      have hl : ((List.range n).filterMap f).length = n := by
        have := ih' n
        have h2 : ∀ k, k < n → k < ((List.range n).filterMap f).length := fun k hk => by
          have := ih' k
          rw [if_pos hk] at this
          obtain ⟨z, ez⟩ := Option.isSome_iff_exists.mp (h k (Nat.lt_succ_of_lt hk))
          rw [ez] at this
          exact (List.getElem?_eq_some_iff.mp this).1
        have h3 : ((List.range n).filterMap f).length ≤ n := Nat.le_trans (List.length_filterMap_le _ _) (by rw [List.length_range]; exact Nat.le_refl _)
        by_cases hlt : ((List.range n).filterMap f).length < n
        · exact absurd (h2 _ hlt) (Nat.lt_irrefl _)
        · omega
      by_cases hi : i < n
      · rw [List.getElem?_append_left (by rw [hl]; exact hi), ih', if_pos hi, if_pos (Nat.lt_succ_of_lt hi)]
      · rw [List.getElem?_append_right (by rw [hl]; omega), hl]
        simp only [List.filterMap_cons, ey, List.filterMap_nil]
        by_cases he : i = n
        · subst he
          simp [ey]
        · rw [if_neg (by omega)]
          exact List.getElem?_eq_none (by simp; omega)
  rw [hall _ _ (fun m hm => by
    have : (((xs.size : Nat) : Int) - 1 + (m : Int) * -1).toNat < xs.size := by omega
    rw [Array.getElem?_eq_getElem this]
    rfl)]
  by_cases hi : i < xs.size
  · rw [if_pos hi, List.getElem?_reverse (by rw [Array.length_toList]; exact hi)]
    rw [Array.length_toList, Array.getElem?_toList]
    congr 1
    omega
  · rw [if_neg hi, List.getElem?_eq_none (by rw [List.length_reverse, Array.length_toList]; omega)]
theorem getItem_tuple_rev {t sl : Addr} {items : Array Value} {tk : Tok} {Q : Value → Shared → Prop} (ht : IsTup s.heap t items) (hs : s.heap.IsSliceOf sl .none .none (.int (-1) tk))
    (h : Q (.ref s.heap.objs.size) { s with heap := s.heap.push { cls := .type "tuple", data := .seq items.toList.reverse.toArray } })
    (hsz : items.size ≤ sizeLine) : wpAny (model prog w) A (getItem (.ref t) (.ref sl)) Q E s := by
  have htake : sizeOk (.seq items.toList.reverse.toArray) := by
    show items.toList.reverse.toArray.size ≤ sizeLine
    rw [List.size_toArray, List.length_reverse, Array.length_toList]
    exact hsz
  obtain ⟨os, hos, hcs, hds⟩ := id hs
  have hTs : s.TypeIs (.ref sl) "slice" := ⟨os, hos, hcs⟩
  unfold getItem
  try with_reducible refine wpAny_holding ?_
  first | refine wpAny_bind (wpAny_pure ?_) | skip
  refine wpAny_bind (wpAny_sequenceKey ht.typeIs (by decide) ?_)
  refine wpAny_bind (wpAny_callSpecial?_slot (name := Str.ofString "__getitem__") ht.typeIs PyProof.Rows.slot_tuple_getitem
    (wpAny_call_entry PyProof.Rows.slot_tuple_getitem ht.typeIs entry_tuple_getitem ?_ (args_tuple_getitem _ _)))
  show wpAny _ _ (Builtin.Tuple.tupleItemsOf (.ref t) >>= _) _ _ s
  refine wpAny_bind (tupleItemsOf_ ht ?_)
  refine wpAny_bind (wpAny_typeOf hTs ?_)
  rw [if_pos (by decide)]
  refine wpAny_bind (sliceApplied_rev hs ?_)
  show wpAny _ _ (if ((((items.size : Nat) : Int) - 1 == 0 && (-1 : Int) == 1 && items.size == items.size) = true) then _ else _) _ _ s
  rw [if_neg (by simp), pick_rev]
  first
    | exact wpAny_bind (m := Builtin.Tuple.tupleExact _) (wpAny_newObj_type (wpAny_pure ⟨_, rfl, wpAny_pure h⟩) htake)
    | exact wpAny_bind (m := Builtin.Tuple.tupleExact _) (wpAny_newObj_type (wpAny_bind (wpAny_pure (wpAny_pure ⟨_, rfl, wpAny_pure h⟩))) htake)
    | exact wpAny_bind (wpAny_bind (m := Builtin.Tuple.tupleExact _) (wpAny_newObj_type (wpAny_pure (wpAny_pure ⟨_, rfl, wpAny_pure h⟩)) htake))
    | exact wpAny_bind (wpAny_bind (m := Builtin.Tuple.tupleExact _) (wpAny_newObj_type (wpAny_pure ⟨_, rfl, wpAny_pure h⟩) htake))
end
end HT
namespace Vc
open PySem PySem.Spec PyProof.Rows L2 PySem.W Lh
section
variable {X : Cx}
def tRevT (K : Frag) (te : TE) : TE := fun σ H Q => te σ H fun x H1 => ∃ a xs, x = .ref a ∧ SqT K H1 a xs ∧ ∀ p, H1 p = none → Q (.ref p) (upd H1 p (.tup xs.reverse))
theorem pe_revT {e : Expr} {te : TE} {k : Nat} {p1 p2 p3 pos : Pos} (he : PE X e te) : PE X (.Subscript e (.Slice none none (some (.UnaryOp .USub (.Constant (.int 1) k p1) p2)) p3) pos) (tRevT X.K te) := by
  refine ⟨fun pins s σ H Q I h => ?_⟩
  refine Subscript_ (thn (he.run pins s σ H _ I h) fun v s1 ⟨x, H1, I1, r1, q1⟩ => ?_)
  obtain ⟨a, xs, ex, hx, q⟩ := q1
  subst ex
  cases r1
  have hst : PO X (some (.UnaryOp .USub (.Constant (.int 1) k p1) p2)) (tPart (tUn (rU fun i => .int (-i)) (tC (.int 1)))) := po_some (pe_un un_neg pe_int)
  refine wpAny_Slice (thn (po_none.run pins s1 σ H1 (fun o H2 => o = none ∧ H2 = H1) I1 ⟨rfl, rfl⟩) fun vl s2 ⟨l, H2, I2, pl, el, e2⟩ => ?_)
  subst el e2
  refine thn (po_none.run pins s2 σ H2 (fun o H3 => o = none ∧ H3 = H2) I2 ⟨rfl, rfl⟩) fun vu s3 ⟨u, H3, I3, pu, eu, e3⟩ => ?_
  subst eu e3
  refine thn (hst.run pins s3 σ H3 (fun o H4 => o = some (-1) ∧ H4 = H3) I3 ⟨1, rfl, -1, rfl, rfl, rfl⟩) fun vs s4 ⟨o, H4, I4, ps, eo, e4⟩ => ?_
  subst eo e4
  cases pl
  cases pu
  obtain ⟨tk, rfl⟩ : ∃ tk, vs = .int (-1) tk := by
    cases ps
    exact ⟨_, rfl⟩
  have I5 : L2.Inv X pins σ H4 { s4 with heap := s4.heap.push { cls := .type "slice", data := .fields #[.none, .none, .int (-1) tk] } } := I4.kept (t' := s4.toks) fun b ob q => Heap.get?_push_of_some _ q
  obtain ⟨its, r, ht, hz⟩ := I5.tuple hx
  have hlen := r.length
  show wpAny (model X.prog X.w) X.A (subscriptTail e (.Slice none none (some (.UnaryOp .USub (.Constant (.int 1) k p1) p2)) p3) (.ref a) (.ref s4.heap.objs.size)) (EP X pins σ Q) X.xe { s4 with heap := s4.heap.push { cls := .type "slice", data := .fields #[.none, .none, .int (-1) tk] } }
  refine tail_any (ops := [.ref a, .ref s4.heap.objs.size]) ht.typeIs (PyProof.Rows.slot_tuple_getitem.lookup) ?_ (by with_unfolding_all rfl)
  refine HT.getItem_tuple_rev ht (Heap.IsSliceOf.new _ _ _ _) ?_ (by rw [List.size_toArray]; omega)
  refine ⟨.ref _, _, I5.laid (t' := s4.toks) (o := .tup xs.reverse) (fun b ob q => Heap.get?_push_of_some _ q) (Nat.le_refl _) ?_, rfl, q _ (I5.hok.fresh (Nat.le_refl _))⟩
  exact ⟨by rw [List.length_reverse]; exact hz, _, r.reverse, IsTup.new _ _⟩
end
theorem DqA.rev {A : Addr → Prop} {H : Hp} : ∀ {xs : List V} {ds : List PyData}, DqA A H xs ds → DqA A H xs.reverse ds.reverse
  | _, _, .nil => .nil
  | _, _, .cons a b => by
    rw [List.reverse_cons, List.reverse_cons]
    exact DqA.append (DqA.rev b) (.cons a .nil)
def aRevL (fl : AL) : AN := fun a Q => fl a fun t ds => t = false ∧ Q ds.reverse
def aRevT (fl : AL) : AE := fun a Q => fl a fun t ds => t = true ∧ Q (.tuple ds.reverse)
section
variable {X : Cx} {S : Stt} {K : Frag} {e : Expr} {te : TE} {fl : AL}
theorem evn_revL (h : EvS S c_te te fl) : EvN S c_te (tRevL K te) (aRevL fl) := fun m Γ a Q ok mt hh σ H E R q =>
  h m Γ a _ ok mt hh σ H E _ fun b t xs ds H1 s o ⟨e, k⟩ => by
    subst e
    exact ⟨b, xs, rfl, .inl (.inl o.hb), new_fresh E s (DqA.rev o.it) k q⟩
theorem evw_revT (h : EvS S c_te te fl) : EvW S c_te (tRevT K te) (aRevT fl) := fun m Γ a Q ok mt hh σ H E R q =>
  h m Γ a _ ok mt hh σ H E _ fun b t xs ds H1 s o ⟨e, k⟩ => by
    subst e
    exact ⟨b, xs, rfl, .inl (RdF.rd o.hb), fun p hp => q _ _ (s.trans (Stp.new hp)).le ⟨_, Dq.newT (Env.free (E.step (r := 0) s) hp) hp (DqA.rev o.it), k⟩⟩
theorem n_revL (K : Frag) {k : Nat} {p1 p2 p3 pos : Pos} (h : PVS X S c_te e te fl) (hK : X.K = K := by rfl) : PVN X S c_te (.Subscript e (.Slice none none (some (.UnaryOp .USub (.Constant (.int 1) k p1) p2)) p3) pos) (tRevL K te) (aRevL fl) := ⟨hK ▸ pe_revL h.pe, evn_revL h.ev⟩
theorem e_revT (K : Frag) {k : Nat} {p1 p2 p3 pos : Pos} (h : PVS X S c_te e te fl) (hK : X.K = K := by rfl) : PV X S c_te (.Subscript e (.Slice none none (some (.UnaryOp .USub (.Constant (.int 1) k p1) p2)) p3) pos) (tRevT K te) (aRevT fl) := ⟨hK ▸ pe_revT h.pe, evw_revT h.ev⟩
end
end Vc

set_option Elab.async false
set_option linter.all false
set_option maxRecDepth 100000
set_option maxHeartbeats 4000000
/-! A list so many times; three names at once; a new list and two more. -/
namespace Vc
open PySem PySem.Spec PyProof.Rows L2 PySem.W Lh
theorem Env.newE {c k : Nat} {m : Md} {Γ : Gam} {σ : L2.St} {H H' : Hp} {q : Addr} {xs : List V} (E : Env m (c + k) Γ σ H) (s : Stp m c H H') (hq : H q = none) (hp : H' q = some (.lst xs)) : Env (m.add q) k Γ σ H' := by
  have E1 := E.step (r := k) s
  have tt : To m.A H (m.add q).A H' := fun a o e n => ⟨s.kp a o e fun z => n (E.sub a z), fun z => z.elim n (ne_of_none e hq)⟩
  refine ⟨E1.inv, E1.fr, fun a ha => .inl (E.sub a ha), fun a ha => ?_, fun x hx => x.2.mono tt (E.ex x hx), E.len, fun i g e => ?_⟩
  · rcases ha with ha | rfl
    · exact E1.trk a ha
    · rw [hp]; exact Tk.lst
  · obtain ⟨v, h1, h2⟩ := E.sl i g e
    refine ⟨v, h1, ?_⟩
    cases g with
    | im f => exact f.mono tt h2
    | box p b =>
      obtain ⟨e1, h3, h4, h5, u, h6, h7⟩ := h2
      exact ⟨e1, .inl h3, h4, h5, u, s.kp p u h6 h4, b.mono tt h7⟩
def aPar3 (i j l : Nat) (aa : AN) : AS := fun En a => aa a fun ds => match ds with
  | [x, y, z] => En.nx (((a.set i (.d x)).set j (.d y)).set l (.d z))
  | _ => False
/-- the first of three a new list -/
def aPar3N (i j l : Nat) (fn : AN) (aa : AN) : AS := fun En a => fn a fun xs => aa a fun ds => match ds with
  | [y, z] => En.nx (((a.set i (.l xs)).set j (.d y)).set l (.d z))
  | _ => False
/-- a list so many times -/
def aRepL (fn : AN) (fe : AE) : AN := fun a Q => fn a fun xs => fe a fun d => ∃ k : Nat, d = .int k ∧ k ≤ 1000 ∧ xs.length * k ≤ 1000000 ∧ Q (List.replicate k xs).flatten
section
variable {S : Stt} {κ : Bool} {te : TE} {ta : TA} {aa : AN} {fn : AN} {fe : AE} {t2 : TE} {i j l c_te c_ta c_t2 : Nat}
theorem stw_par3 (ha : EvAs S c_ta (some 3) ta aa) : StW S κ c_ta (tPar3 i j l ta) (aPar3 i j l aa) := fun F De En a σ H kr c ⟨m, Γ, f, mt, d, E⟩ h =>
  ha m Γ a _ f.ok mt h σ H E.le _ fun vs ds H' hn s o k => by
    have hl := hn 3 rfl
    match ds, hl with
    | [x, y, z], _ =>
      cases o with
      | cons o1 o2 =>
        cases o2 with
        | cons o2 o3 =>
          cases o3 with
          | cons o3 o4 =>
            cases o4
            exact ⟨_, _, _, rfl, c.nx _ _ _ (Rep.at f d ((Fewer.set.trans Fewer.set).trans Fewer.set) (((mt.set (.d x)).set (.d y)).set (.d z)) ((((E.step s).set (g := D x) o1).set (g := D y) o2).set (g := D z) o3)) k⟩
theorem stw_par3N (he : EvN S c_te te fn) (ha : EvAs S c_ta (some 2) ta aa) : StW S κ (c_te + c_ta) (tPar3 i j l (tCons te ta)) (aPar3N i j l fn aa) := fun F De En a σ H kr c ⟨m, Γ, f, mt, d, E⟩ h =>
  he m Γ a _ f.ok mt h σ H E.le _ fun q xs ds H1 s hq hp o k => by
    have E0 : Env m (c_te + (c_ta + kr)) Γ σ H := E.le (by omega)
    have E3 : Env (m.add q) (c_ta + kr) Γ σ H1 := Env.newE E0 s hq hp
    refine ha (m.add q) Γ a _ f.ok.add mt k σ H1 E3.le _ fun vs es H2 hn s2 o2 k2 => ?_
    have hl := hn 2 rfl
    match es, hl with
    | [y, z], _ =>
      cases o2 with
      | cons o2 o3 =>
        cases o3 with
        | cons o3 o4 =>
          cases o4
          have E4 : Env (m.add q) kr Γ σ H2 := E3.step s2
          have hp2 : H2 q = some (.lst xs) := s2.kp _ _ hp (E.freeM hq)
          have o' : DqA (fun b => m.A b ∨ b = q) H2 xs ds := o.to fun a o e n => ⟨s2.kp a o e fun z => n (.inl (E.sub a z)), n⟩
          have E5 : Env (m.add q) kr (Γ.set i (some (.box q (bL ds)))) (σ.set i (some (.ref q))) H2 := E4.set ⟨rfl, .inr rfl, E.freeM hq, E.free0 hq, _, hp2, xs, rfl, o'⟩
          exact ⟨_, _, _, rfl, c.nx _ _ _ (Rep.at f.add (d.setB (NoBox.wk (E.noBox hq))) (Fewer.set.trans Fewer.set) (((mt.set (.l ds q)).set (.d y)).set (.d z)) (((E5.set (g := D y) o2).set (g := D z) o3))) k2⟩
theorem evn_repL (he : EvN S c_te te fn) (h2 : EvW S c_t2 t2 fe) : EvN S (c_te + c_t2) (tOp rRep te t2) (aRepL fn fe) := fun m Γ a Q ok mt hh σ H E R rr =>
  he m Γ a _ ok mt hh σ H E.le _ fun q xs ds H1 s hq hp o k => by
    have E3 : Env (m.add q) c_t2 Γ σ H1 := Env.newE E s hq hp
    refine h2 (m.add q) Γ a _ ok.add mt k σ H1 E3.le _ fun y H2 s2 ⟨d, oy, n, e, hn, hz, k2⟩ => ?_
    subst e
    cases oy
    have hp2 : H2 q = some (.lst xs) := s2.kp _ _ hp (E.freeM hq)
    have o' : DqA (fun b => m.A b ∨ b = q) H2 xs ds := o.to fun a o e n => ⟨s2.kp a o e fun z => n (.inl (E.sub a z)), n⟩
    have s3 : Stp m (c_te + c_t2) H H2 := s.trans ⟨s2.kp, s2.inv⟩
    refine ⟨q, _, xs, rfl, rfl, hp2, by omega, by omega, by rw [Int.toNat_natCast, o.length, sizeLine_eq]; exact Nat.le_trans hz (by decide), fun p hn2 => ?_⟩
    have hb : H p = none := Vc.Env.back E s3 hn2
    rw [Int.toNat_natCast]
    have of : ∀ n, DqA (fun b => m.A b ∨ b = q) H2 (List.replicate n xs).flatten (List.replicate n ds).flatten := fun n => by
      induction n with
      | zero => exact .nil
      | succ n ih =>
        rw [List.replicate_succ, List.replicate_succ, List.flatten_cons, List.flatten_cons]
        exact o'.append ih
    exact rr p _ _ _ (s3.trans (Stp.new hn2)).le hb upd_same ((of n).to fun a o e n => ⟨by rw [upd_ne (ne_of_none e hn2)]; exact e, fun z => z.elim (fun z => n (.inl z)) (ne_of_none e hn2)⟩) k2
end
section
variable {X : Cx} {S : Stt} {κ : Bool} {e e2 : Expr} {te : TE} {ta : TA} {aa : AN} {fn : AN} {fe : AE} {t2 : TE} {c_te c_ta c_t2 : Nat} {pos : Pos}
theorem n_rep (h : PVN X S c_te e te fn) (h2 : PV X S c_t2 e2 t2 fe) : PVN X S (c_te + c_t2) (.BinOp e .Mult e2 pos) (tOp rRep te t2) (aRepL fn fe) := ⟨pe_op op_rep h.pe h2.pe, evn_repL h.ev h2.ev⟩
theorem s_par3 {i j l : Nat} {x y z : Str} {a b c : Expr} {px py pz pt : Pos} {kt k2 pt2} (hc : X.calm = true) (hN : X.N.Nodup) (hi : X.N[i]? = some x) (hj : X.N[j]? = some y) (hl : X.N[l]? = some z) (hij : i ≠ j) (hil : i ≠ l) (hjl : j ≠ l)
    (hx : X.env.scope.names.lookup x = some .local) (hy : X.env.scope.names.lookup y = some .local) (hz : X.env.scope.names.lookup z = some .local) (ha : PVA X S c_ta (some 3) [a, b, c] ta aa)
    (hw : swappedStores [.Tuple [.Name x px, .Name y py, .Name z pz] kt pt] (.Tuple [a, b, c] k2 pt2) X.env = pure (some [x, y, z]))
    (hs : swapsWithSole [.Tuple [.Name x px, .Name y py, .Name z pz] kt pt] (.Tuple [a, b, c] k2 pt2) pos.line X.env = pure false := by rfl) :
    PVst X S κ c_ta (.Assign [.Tuple [.Name x px, .Name y py, .Name z pz] kt pt] (.Tuple [a, b, c] k2 pt2) pos) (tPar3 i j l ta) (aPar3 i j l aa) := ⟨ps_par3 hc hN hi hj hl hij hil hjl hx hy hz ha.pe hw hs, stw_par3 ha.ev⟩
theorem s_par3N {i j l : Nat} {x y z : Str} {a b c : Expr} {px py pz pt : Pos} {kt k2 pt2} (hc : X.calm = true) (hN : X.N.Nodup) (hi : X.N[i]? = some x) (hj : X.N[j]? = some y) (hl : X.N[l]? = some z) (hij : i ≠ j) (hil : i ≠ l) (hjl : j ≠ l)
    (hx : X.env.scope.names.lookup x = some .local) (hy : X.env.scope.names.lookup y = some .local) (hz : X.env.scope.names.lookup z = some .local) (h1 : PVN X S c_te a te fn) (ha : PVA X S c_ta (some 2) [b, c] ta aa)
    (hw : swappedStores [.Tuple [.Name x px, .Name y py, .Name z pz] kt pt] (.Tuple [a, b, c] k2 pt2) X.env = pure (some [x, y, z]))
    (hs : swapsWithSole [.Tuple [.Name x px, .Name y py, .Name z pz] kt pt] (.Tuple [a, b, c] k2 pt2) pos.line X.env = pure false := by rfl)
    (h4 : starEach [a, b, c] X.env = (false, eval a X.env) :: starEach [b, c] X.env := by rfl) :
    PVst X S κ (c_te + c_ta) (.Assign [.Tuple [.Name x px, .Name y py, .Name z pz] kt pt] (.Tuple [a, b, c] k2 pt2) pos) (tPar3 i j l (tCons te ta)) (aPar3N i j l fn aa) := ⟨ps_par3 hc hN hi hj hl hij hil hjl hx hy hz (pa_cons h1.pe ha.pe h4) hw hs, stw_par3N h1.ev ha.ev⟩
end
end Vc

set_option Elab.async false
set_option linter.all false
set_option maxRecDepth 100000
set_option maxHeartbeats 4000000
/-! Dicts as data. -/
namespace Vc
open PySem PySem.Spec PyProof.Rows L2 PySem.W Lh
def kD : L2.Key → PyData
  | .inl i => .int i
  | .inr x => .str x
theorem Dq.kD {A : Addr → Prop} {H : Hp} : ∀ k : L2.Key, Dq A H (kV k) (kD k)
  | .inl i => .int i
  | .inr x => .str x
theorem Dq.ofK {A : Addr → Prop} {H : Hp} : ∀ {k : L2.Key} {v : V}, Dq A H v (Vc.kD k) → v = kV k
  | .inl i, _, h => by cases h; rfl
  | .inr x, _, h => by cases h; rfl
theorem valV_none {k : L2.Key} : ∀ {kvs : List (L2.Key × V)}, k ∉ kvs.map (·.1) → valV kvs k = none
  | [], _ => rfl
  | z :: kvs, h => by
    rw [List.map_cons, List.mem_cons, not_or] at h
    rw [valV_neg fun e => h.1 e.symm]
    exact valV_none h.2
theorem mergeK_new : ∀ {more kvs : List (L2.Key × V)}, ((kvs ++ more).map (·.1)).Nodup → mergeK kvs more = kvs ++ more
  | [], kvs, _ => by rw [List.append_nil]; rfl
  | z :: more, kvs, h => by
    have e : kvs ++ z :: more = (kvs ++ [z]) ++ more := by simp
    have hz : z.1 ∉ kvs.map (·.1) := fun hm => by
      rw [List.map_append, List.map_cons] at h
      exact (List.nodup_append.mp h).2.2 _ hm _ List.mem_cons_self rfl
    show mergeK (putK kvs z.1 z.2) more = _
    rw [putK_new _ (valV_none hz), e]
    exact mergeK_new (by rw [← e]; exact h)
/-- dict(list of pairs), no key twice -/
def gDictP : Bool → List PyData → (PyData → Prop) → Prop := fun t ds Q => t = false ∧ ∃ kvs : List (L2.Key × PyData), ds = kvs.map (fun z => .tuple [kD z.1, z.2]) ∧ (kvs.map (·.1)).Nodup ∧ Q (.dict (kvs.map fun z => (kD z.1, z.2)))
abbrev rDictP (K : Frag) : List V → Hp → VK → Prop := fun xs H Q => ∃ (a : Addr) (ps : List Addr) (kvs : List (L2.Key × V)), xs = [.ref a] ∧ SqL K H a (ps.map V.ref) ∧ Paired (fun p kv => SqT K H p [kV kv.1, kv.2]) ps kvs ∧
    ∀ p, H p = none → Q (.ref p) (upd H p (.dK (mergeK [] kvs)))
theorem k_dictP {X : Cx} (K : Frag) (hc : X.calm = true) (hK : X.K = K := by rfl) : CallR X (.type "dict") (rDictP K) := hK ▸ call_dictP hc
theorem pairs_of {A : Addr → Prop} {H : Hp} (K : Frag) : ∀ {xs : List V} {kvs : List (L2.Key × PyData)}, DqA A H xs (kvs.map fun z => .tuple [kD z.1, z.2]) → ∃ (ps : List Addr) (kws : List (L2.Key × V)), xs = ps.map V.ref ∧ Paired (fun p kv => SqT K H p [kV kv.1, kv.2]) ps kws ∧ kws.map (·.1) = kvs.map (·.1) ∧ DqA A H (kws.map (·.2)) (kvs.map (·.2))
  | _, [], .nil => ⟨[], [], rfl, .nil, rfl, .nil⟩
  | _, z :: kvs, .cons h t => by
    obtain ⟨ps, kws, rfl, h2, h3, h4⟩ := pairs_of K t
    cases h with
    | tup hb _ it =>
      cases it with
      | cons o1 o2 =>
        cases o2 with
        | cons o2 o3 =>
          cases o3
          have e := Dq.ofK o1
          subst e
          exact ⟨_ :: ps, (z.1, _) :: kws, rfl, .cons (.inl (RdF.rd hb)) h2, by rw [List.map_cons, List.map_cons, h3], .cons o2 h4⟩
theorem DqA.keys {A : Addr → Prop} {H : Hp} : ∀ (ks : List L2.Key), DqA A H (ks.map kV) (ks.map kD)
  | [] => .nil
  | k :: ks => .cons (Dq.kD k) (DqA.keys ks)
section
variable {S : Stt} {K : Frag}
theorem rd_dictP : RdD S (rDictP K) gDictP := fun {m Γ σ H b t xs ds Q R} ok E o ⟨e, kvs, e2, nd, k⟩ q => by
  subst e e2
  have hb := o.hb
  have it := o.it
  obtain ⟨ps, kws, e3, h2, h3, h4⟩ := pairs_of K it
  refine ⟨b, ps, kws, rfl, .inl (.inl (e3 ▸ hb)), h2, fun p hp => ?_⟩
  rw [mergeK_new (by rw [List.nil_append, h3]; exact nd), List.nil_append]
  have kk : To m.A H m.A (upd H p (.dK kws)) := fun a o e n => ⟨by rw [upd_ne (ne_of_none e hp)]; exact e, n⟩
  have e5 : (kws.map fun z => kV z.1) = (kvs.map (·.1)).map kV := by rw [← h3, List.map_map]; rfl
  have e6 : (kvs.map fun z => (kD z.1, z.2)).map (·.1) = (kvs.map (·.1)).map kD := by rw [List.map_map, List.map_map]; rfl
  have e7 : (kvs.map fun z => (kD z.1, z.2)).map (·.2) = kvs.map (·.2) := by rw [List.map_map]; rfl
  exact q _ _ _ (Stp.new hp) (.dct (.inl upd_same) (Env.free E hp) (by rw [e5, e6]; exact DqA.keys _) (by rw [e7]; exact h4.to kk)) k
def aDict0 : AE := fun _ Q => Q (.dict [])
theorem evw_dict0 : EvW S 0 tDNewK aDict0 := fun m Γ a Q ok mt hh σ H E R q => fun p hp => q _ _ (Stp.new hp) ⟨_, .dct (.inl upd_same) (Env.free E hp) .nil .nil, hh⟩
theorem e_dict0 {X : Cx} {pos : Pos} : PV X S 0 (.Dict [] [] pos) tDNewK aDict0 := ⟨pe_dnewK, evw_dict0⟩
end
def aNeg (fe : AE) : AE := fun a Q => fe a fun d => ∃ i, d = .int i ∧ Q (.int (-i))
theorem evw_neg {S : Stt} {te : TE} {fe : AE} {c : Nat} (h : EvW S c te fe) : EvW S c (tUn (rU fun i => .int (-i)) te) (aNeg fe) := fun m Γ a Q ok mt hh σ H E R q =>
  h m Γ a _ ok mt hh σ H E _ fun v H1 s ⟨d, o, i, e, k⟩ => by
    subst e
    cases o
    exact ⟨i, rfl, q _ H1 s ⟨_, .int _, k⟩⟩
theorem u_neg {X : Cx} {S : Stt} {e : Expr} {te : TE} {fe : AE} {c : Nat} {pos : Pos} (h : PV X S c e te fe) : PV X S c (.UnaryOp .USub e pos) (tUn (rU fun i => .int (-i)) te) (aNeg fe) := ⟨pe_un un_neg h.pe, evw_neg h.ev⟩
end Vc

set_option Elab.async false
set_option linter.all false
set_option maxRecDepth 100000
set_option maxHeartbeats 4000000
/-! The state of the laws that mix: a dict of two lists of ints and two ints. -/
namespace Vc
open PySem PySem.Spec PyProof.Rows L2 PySem.W Lh
/-- how often the state may be mixed -/
def capA : Nat := 2 ^ 1000000
def StB (p g c : Addr) (n : Nat) (H : Hp) : Prop := ∃ r t gs cs, StD p g c r t gs cs H ∧ 0 ≤ t ∧ t ≤ n
theorem StB.trk {p g c a : Addr} {n : Nat} {H : Hp} (h : StB p g c n H) (hm : Sm p g c a) : Tk (H a) := by
  obtain ⟨r, t, gs, cs, h, _⟩ := h
  rcases hm with e | e | e
  · rw [e, h.hp]; exact Tk.dK
  · rw [e, h.hg]; exact Tk.lst
  · rw [e, h.hc]; exact Tk.lst
theorem StB.keep {p g c : Addr} {n : Nat} {H H' : Hp} (h : StB p g c n H) (k : ∀ a o, H a = some o → Sm p g c a → H' a = some o) : StB p g c n H' := by
  obtain ⟨r, t, gs, cs, h, ht⟩ := h
  exact ⟨r, t, gs, cs, ⟨k _ _ h.hp (.inl rfl), k _ _ h.hg (.inr (.inl rfl)), k _ _ h.hc (.inr (.inr rfl)), h.ne⟩, ht⟩
theorem StB.up {p g c : Addr} {n n' : Nat} {H : Hp} (h : StB p g c n H) (k : n ≤ n') : StB p g c n' H := by
  obtain ⟨r, t, gs, cs, h, h0, ht⟩ := h
  exact ⟨r, t, gs, cs, h, h0, by omega⟩
theorem StB.least {p g c : Addr} {n : Nat} {H : Hp} (h : StB p g c n H) : ∃ n0, StB p g c n0 H ∧ n0 ≤ n ∧ ∀ n', StB p g c n' H → n0 ≤ n' := by
  obtain ⟨r, t, gs, cs, h, h0, ht⟩ := h
  refine ⟨t.toNat, ⟨r, t, gs, cs, h, h0, by omega⟩, by omega, fun n' ⟨r', t', gs', cs', h', h0', ht'⟩ => ?_⟩
  have e : Lh.stK g c r t = Lh.stK g c r' t' := by
    have := h.hp.symm.trans h'.hp
    injection this with this
    injection this
  have e2 : valV (Lh.stK g c r t) kT = valV (Lh.stK g c r' t') kT := by rw [e]
  rw [st_turn, st_turn] at e2
  injection e2 with e2
  injection e2 with e2
  omega
def sttA (cs : List (Addr × PyData)) (p g c : Addr) : Stt := ⟨p, cs, Sm p g c, StB p g c, capA, StB.trk, StB.keep, StB.up, StB.least⟩
def ΦA (cs : List (Addr × PyData)) : Stt → Prop := fun S => ∃ p g c, S = sttA cs p g c
/-- what take asks: a number above 0, not too great; any number below it may come -/
def W_take : List PyData → (PyData → Prop) → Prop := fun ds Q => ds.length = 1 ∧ ∃ m : Int, ds = [.int m] ∧ 0 < m ∧ m < 2 ^ 1000 ∧ ∀ k : Int, 0 ≤ k → k < m → Q (.int k)
theorem join {t u : TS} {De : Ends} {σ : L2.St} {H : Hp} (Pj : Hp → Prop) (h1 : ∀ X : L2.St → Hp → Prop, (∀ H', Pj H' → X σ H') → t ⟨X, De.rt, De.bk, De.ct⟩ σ H) (h2 : ∀ H', Pj H' → u De σ H') : tSeq t u De σ H := h1 _ h2
theorem dg {H : Hp} {p : Addr} {kvs : List (L2.Key × V)} {x : Str} {v : V} (h : H p = some (.dK kvs)) (e : valV kvs (Sum.inr x) = some v) : DGet H p (.str x) (some v) := by
  have := DGet.k (k := Sum.inr x) h
  rw [e] at this
  exact this
theorem dp {H : Hp} {p : Addr} {kvs kvs' : List (L2.Key × V)} {x : Str} {v : V} (h : H p = some (.dK kvs)) (hl : kvs.length < sizeLine) (e : putK kvs (Sum.inr x) v = kvs') : DPut H p (.str x) v (upd H p (.dK kvs')) := by
  have := DPut.k (k := Sum.inr x) (v := v) h hl
  rw [e] at this
  exact this
theorem st4 {g c : Addr} {r t : Int} : (Lh.stK g c r t).length < sizeLine := by
  show 4 < sizeLine
  decide
def primes : List Int := [2147483629, 2147483587, 2147483579, 2147483563, 2147483549, 2147483543]
theorem capA_big : (1 : Int) ≤ (capA : Int) := Int.ofNat_le.mpr (Nat.pow_pos (n := 1000000) (by decide : 0 < 2))
theorem pow_le_bits {n : Nat} {b : Int} (h1 : -1000 ≤ b) (h2 : b < 1099511627776 * ((2 ^ n : Nat) : Int)) : b.natAbs < 2 ^ (40 + n) := by
  have e : 2 ^ (40 + n) = 1099511627776 * 2 ^ n := by rw [Nat.pow_add]
  have hp : 1 ≤ 2 ^ n := Nat.pow_pos (by decide)
  rw [e]
  generalize 2 ^ n = k at h2 hp
  omega
theorem mulx_bits {n : Nat} {b : Int} (h1 : -1000 ≤ b) (h2 : b < 1099511627776 * ((2 ^ n : Nat) : Int)) (hn : n ≤ 1000000) : CMulX b b := mulx_ok (pow_le_bits h1 h2) (pow_le_bits h1 h2) (by omega)
theorem capA_mul {b : Int} (h1 : -1000 ≤ b) (h2 : b < 1099511627776 * (capA : Int)) : CMulX b b := mulx_bits (n := 1000000) h1 h2 (Nat.le_refl _)
theorem take_div {i m : Int} (h0 : 0 < m) (h9 : m < 2 ^ 1000) : CDivW i m := wide_div (b := 1000) h0 (by omega) (by decide) (by decide)
/-- from the script the state -/
def sp_begun (K : Frag) : Sp := fun vs H Q _ => ∃ (a : Addr) (ns : List Int), vs = [.ref a] ∧ SqL K H a (ns.map V.int) ∧ ns.length ≤ 63 ∧
  ∀ p g c H', (∀ b o, H b = some o → H' b = some o) → H p = none → H g = none → H c = none → StB p g c 0 H' → Q (.ref p) H'
def sp_mixed : Sp := fun vs H Q _ => ∃ p g c r t gs cs, vs = [.ref p] ∧ StD p g c r t gs cs H ∧ 0 ≤ t ∧ t < capA ∧
  ∀ n H', (∀ a o, H a = some o → a ≠ p → H' a = some o) → StD p g c r (t + 1) gs cs H' → Q (.int n) H'
end Vc

set_option Elab.async false
set_option linter.all false
set_option maxRecDepth 100000
set_option maxHeartbeats 4000000
/-! The law's own def: it begins with the state. -/
namespace Vc
open PySem PySem.Spec PyProof.Rows L2 PySem.W Lh
def spLaw (K : Frag) (cs : List (Addr × PyData)) : Sp := fun vs H Q _ => ∃ (a : Addr) (ns : List Int), vs = [.ref a] ∧ SqL K H a (ns.map V.int) ∧ ns.length ≤ 63 ∧ (∀ c ∈ cs, Dq (fun _ => False) H (.ref c.1) c.2) ∧ ∀ H', Q (.bl true) H'
/-- what the law's own def asks, from behind its first row on -/
def lawW (N : Nat) (s : AS) : Prop := s { nx := fun _ => False, rt := fun d => d = .bool true } (.no :: .st :: List.replicate (N - 2) .no)
section
variable {P : Program} {w : World} {K : Frag} {mg : Str → Option Value} {base : Heap}
theorem law_okA {cs : List (Addr × PyData)} {st : Stmt} {f fB : Addr} {fd fdB : FuncData} {N : List Str} {k c0 : Nat} {s : AS} {ts : TS} {rest : List Stmt}
    (F : Fun K "law" "law" st f fd) (Sc : FnScope N ["script"] (defScope st)) (G : FnOk P w K mg base CX0 1 fB fdB ["script"] (sp_begun K))
    (hgB : mg "_law_begun" = some (.ref fB)) (hkB : PySem.W.keepIn K (.ref fB) = true) (hbB : Binds K fdB ["script"] [])
    (hN1 : N[1]? = some ("state" : Str) := by rfl)
    (hpe : ∀ (cdv : Value) (A : Around) (outer : List Env) (s0 : Shared) (H : Hp) (E : XK) (ts : TS), Room k (A.deeper (envOfC "law" (defScope st) s0.heap.objs.size f cdv)) → PSs (cxOf CX0 P w K mg base N "law" (defScope st) f cdv A outer s0 H E).nox rest ts →
      PSs (cxOf CX0 P w K mg base N "law" (defScope st) f cdv A outer s0 H E).nox (defBody st) (tSeq (tAsg (tCall (sp_begun K) [] (fun _ _ _ => False) (tCons (tVar 0) tNil)) (gName 1)) ts))
    (hb : ∀ (S : Stt), ΦA cs S → ∀ (cdv : Value) (A : Around) (outer : List Env) (s0 : Shared) (H : Hp) (E : XK), Room k (A.deeper (envOfC "law" (defScope st) s0.heap.objs.size f cdv)) →
      PVss (cxOf CX0 P w K mg base N "law" (defScope st) f cdv A outer s0 H E).nox S false c0 rest ts s) (hc : c0 ≤ capA) (hw : lawW N.length s) :
    FnOk P w K mg base CX0 (k + 1) f fd ["script"] (spLaw K cs) := by
  refine F.ok Sc (fun vs H Q E h => ?_) (fun cdv A outer s0 H vs Q E hr h => ?_)
  · obtain ⟨a, ns, rfl, _⟩ := h
    rfl
  · obtain ⟨a, ns, rfl, hS, hl, hcs, q⟩ := h
    have B0 := hb (sttA cs 0 0 0) ⟨0, 0, 0, rfl⟩ cdv A outer s0 H E hr
    refine ⟨_, hpe cdv A outer s0 H E ts hr B0.pe, ?_⟩
    obtain ⟨n', hn'⟩ : ∃ n', N.length = n' + 2 := ⟨N.length - 2, by
      have := (List.getElem?_eq_some_iff.mp hN1).1
      omega⟩
    refine ⟨.ref a, by unfold L2.start; simp, a, ns, rfl, hS, hl, fun p g c H1 kp hp hg hc1 hI => ?_⟩
    have B := hb (sttA cs p g c) ⟨p, g, c, rfl⟩ cdv A outer s0 H E hr
    have ok0 : Ok (sttA cs p g c) (mSt (sttA cs p g c) c0 (Sm p g c) H1) := ⟨rfl, rfl, ⟨c0, hc, rfl⟩, carried_in⟩
    have ht : ∀ a, Sm p g c a → Tk (H1 a) := fun a h => hI.trk h
    have E0 : Env (mSt (sttA cs p g c) c0 (Sm p g c) H1) (c0 + 0) (none :: some (Vl (.ref p)) :: List.replicate n' none) (some (.ref a) :: some (.ref p) :: List.replicate n' none) H1 := by
      refine ⟨⟨0, by show 0 + (c0 + 0) ≤ c0; omega, hI⟩, fun _ _ h _ => h, fun _ h => h, ht, fun x hx => ?_, by simp, fun i g' e => ?_⟩
      · obtain ⟨cc, h, rfl⟩ := List.mem_map.mp hx
        refine (hcs cc h).to fun b o e _ => ⟨kp b o e, fun z => ?_⟩
        rcases z with z | z | z
        · rw [z, hp] at e; cases e
        · rw [z, hg] at e; cases e
        · rw [z, hc1] at e; cases e
      · match i, e with
        | 0, e => cases e
        | 1, e => cases e; exact ⟨_, rfl, rfl⟩
        | i + 2, e =>
          rw [List.getElem?_cons_succ, List.getElem?_cons_succ, List.getElem?_replicate] at e
          split at e <;> cases e
    have mt : Mt p (.no :: .st :: List.replicate (N.length - 2) .no) (none :: some (Vl (.ref p)) :: List.replicate n' none) := by
      refine ⟨by simp; omega, fun i x e => ?_⟩
      match i, e with
      | 0, e => cases e; exact ⟨_, rfl, .no⟩
      | 1, e => cases e; exact ⟨_, rfl, .st⟩
      | i + 2, e =>
        rw [List.getElem?_cons_succ, List.getElem?_cons_succ, List.getElem?_replicate] at e
        rw [List.getElem?_cons_succ, List.getElem?_cons_succ, List.getElem?_replicate]
        split at e
        · rename_i h
          cases e
          exact ⟨none, if_pos (by omega), .no⟩
        · cases e
    have dis : Dis (none :: some (Vl (.ref p)) :: List.replicate n' none) := fun i j q b b' e _ => by
      match i, e with
      | 0, e => cases e
      | 1, e => cases e
      | i + 2, e =>
        rw [List.getElem?_cons_succ, List.getElem?_cons_succ, List.getElem?_replicate] at e
        split at e <;> cases e
    have R0 : Rep (sttA cs p g c) ⟨H1, Sm p g c, [], c0, ht⟩ (c0 + 0) (.no :: .st :: List.replicate (N.length - 2) .no) (some (.ref a) :: some (.ref p) :: List.replicate n' none) H1 := ⟨mSt (sttA cs p g c) c0 (Sm p g c) H1, _, ⟨rfl, ok0, rfl, fun _ h => h, fun x h => absurd h (by simp)⟩, mt, dis, E0⟩
    have e0 : (L2.start N [.ref a]).set 1 (some (.ref p)) = some (.ref a) :: some (.ref p) :: List.replicate n' none := by
      unfold L2.start
      simp [hn', List.replicate_succ]
    show ts _ ((L2.start N [.ref a]).set 1 (some (.ref p))) H1
    rw [e0]
    refine B.ev ⟨H1, Sm p g c, [], c0, ht⟩ _ { nx := fun _ => False, rt := fun d => d = .bool true } _ _ H1 0 ⟨fun a σ H' _ k => k.elim, fun v H' d r e => ?_, fun a σ H' _ k => k.elim, fun a σ H' _ k => k.elim⟩ R0 hw
    subst e
    obtain ⟨m, Γ, σ, f, E', r⟩ := r
    rcases r with ⟨_, o⟩ | ⟨z, _⟩
    · cases o
      exact q _
    · cases z
end
end Vc

set_option Elab.async false
set_option linter.all false
set_option maxRecDepth 100000
set_option maxHeartbeats 4000000
/-! Places of lists, tuples and texts alike; loops and comprehensions of conditions. -/
namespace Vc
open PySem PySem.Spec PyProof.Rows L2 PySem.W Lh
/-- a place of a list, a tuple or a text -/
def gIxA : PyData → PyData → (PyData → Prop) → Prop := fun x y Q => match x, y with
  | .list ds, .int i => ∃ y, atI ds i = some y ∧ Q y
  | .tuple ds, .int i => ∃ y, atI ds i = some y ∧ Q y
  | .str z, .int i => z.length ≤ sizeLine ∧ ∃ c, atI z.cps.toList i = some c ∧ Q (.str ⟨#[c]⟩)
  | _, _ => False
abbrev rIxA (K : Frag) : R2 := fun x y H Q => rIx K x y H Q ∨ rIxS x y H Q
theorem ix_any {X : Cx} (K : Frag) (hK : X.K = K := by rfl) : IxR X (rIxA K) := fun a b c d e f g h i j k I r1 r2 o q => by
  rcases o with o | o
  · exact k_ix K hK a b c d e f g h i j k I r1 r2 o q
  · exact ix_str a b c d e f g h i j k I r1 r2 o q
theorem atI_get {A : Addr → Prop} {H : Hp} {xs : List V} {ds : List PyData} {i : Int} {y : PyData} (it : DqA A H xs ds) (hz : atI ds i = some y) : ∃ v, atI xs i = some v ∧ Dq A H v y := by
  unfold atI at hz
  cases hn : ixN ds.length i with
  | none => rw [hn] at hz; cases hz
  | some j =>
    rw [hn] at hz
    obtain ⟨v, hv, ov⟩ := it.get (i := j) hz
    refine ⟨v, ?_, ov⟩
    unfold atI
    rw [it.length, hn]
    exact hv
theorem opd_ixA {S : Stt} {K : Frag} : OpD S (rIxA K) gIxA := fun {m Γ σ H x y dx dy Q R} ok E ox oy k q => by
  unfold gIxA at k
  split at k
  · cases ox with
    | lst hb n it =>
      cases oy
      obtain ⟨z, hz, k⟩ := k
      obtain ⟨v, hv, ov⟩ := atI_get it hz
      exact .inl (.inl ⟨_, _, _, v, rfl, rfl, .inl (.inl hb), hv, q v H _ Stp.refl ov k⟩)
  · cases ox with
    | tup hb n it =>
      cases oy
      obtain ⟨z, hz, k⟩ := k
      obtain ⟨v, hv, ov⟩ := atI_get it hz
      exact .inl (.inr (.inl ⟨_, _, _, v, rfl, rfl, .inl hb.rd, hv, q v H _ Stp.refl ov k⟩))
  · cases ox
    cases oy
    obtain ⟨h1, c, h2, h3⟩ := k
    exact .inr ⟨_, _, c, rfl, rfl, h1, h2, q _ H _ Stp.refl (.str _) h3⟩
  · exact k.elim
theorem e_ixA {X : Cx} {S : Stt} {e ex : Expr} {te ti : TE} {fe fi : AE} {c_te c_ti : Nat} {pos : Pos} (K : Frag) (ha : PV X S c_te e te fe) (hb : PV X S c_ti ex ti fi) (hs : PlainIx ex) (hK : X.K = K := by rfl) : PV X S (c_te + c_ti) (.Subscript e ex pos) (tOp (rIxA K) te ti) (aOp gIxA fe fi) := ⟨pe_ix (ix_any K hK) ha.pe hb.pe hs, evw_op opd_ixA ha.ev hb.ev⟩

theorem aNext_of {En : AEnds} {a : Sg} (h : En.nx a) : aNext En a := h
theorem agV_of {i : Nat} {x : PyData} {a : Sg} {P : Sg → Prop} (h : P (a.set i (.d x))) : agV i x a P := h
theorem aSeq_of {s t : AS} {En : AEnds} {a : Sg} (h : s { En with nx := t En } a) : aSeq s t En a := h
/-! ### loops and comprehensions -/
section
variable {ag : AG} {at_ : AT} {ae : AE} {a : Sg} {body : AS} {En : AEnds}
/-- each thing gives one that P tells, or none -/
theorem lc_rel (P : PyData → PyData → Prop) : ∀ {ds : List PyData} {Q : List PyData → Prop}, (∀ x ∈ ds, ∀ (R : PyData → Prop) (N : Prop), (∀ y, P x y → R y) → ag x a fun a' => at_ a' fun b => (b = true → ae a' R) ∧ (b = false → N)) →
    (∀ ys : List PyData, ys.length = ds.length → (∀ (i : Nat) (x y : PyData), ds[i]? = some x → ys[i]? = some y → P x y) → Q ys) → lcW ag at_ ae a ds Q
  | [], Q, _, q => q [] rfl (fun i x y e => by simp at e)
  | x :: xs, Q, h, q => h x List.mem_cons_self _ _ fun y hy => lc_rel P (fun z hz => h z (List.mem_cons_of_mem _ hz)) fun ys hl hp => q (y :: ys) (by rw [List.length_cons, List.length_cons, hl]) fun i u v e1 e2 => by
      cases i with
      | zero => cases e1; cases e2; exact hy
      | succ i => exact hp i u v e1 e2
/-- each gives what g tells, or is passed by -/
theorem lc_fm (g : PyData → Option PyData) : ∀ {ds : List PyData} {Q : List PyData → Prop}, (∀ x ∈ ds, ∀ (R : PyData → Prop) (N : Prop), (∀ y, g x = some y → R y) → (g x = none → N) → ag x a fun a' => at_ a' fun b => (b = true → ae a' R) ∧ (b = false → N)) →
    Q (ds.filterMap g) → lcW ag at_ ae a ds Q
  | [], Q, _, q => q
  | x :: xs, Q, h, q => h x List.mem_cons_self _ _ (fun y hy => lc_fm g (fun z hz => h z (List.mem_cons_of_mem _ hz)) (by rw [List.filterMap_cons_some hy] at q; exact q)) fun hn => lc_fm g (fun z hz => h z (List.mem_cons_of_mem _ hz)) (by rw [List.filterMap_cons_none hn] at q; exact q)
theorem lc_map (f : PyData → PyData) {ds : List PyData} {Q : List PyData → Prop} (h : ∀ x ∈ ds, ∀ (R : PyData → Prop) (N : Prop), R (f x) → ag x a fun a' => at_ a' fun b => (b = true → ae a' R) ∧ (b = false → N)) (q : Q (ds.map f)) : lcW ag at_ ae a ds Q :=
  lc_fm (fun x => some (f x)) (fun x hx R N r _ => h x hx R N (r _ rfl)) (by rw [show (fun x => some (f x)) = some ∘ f from rfl, List.filterMap_eq_map]; exact q)
/-- a loop keeps what I tells of what is left -/
theorem for_of (I : List PyData → Sg → Prop) : ∀ {ds : List PyData} {a : Sg}, (∀ x xs a (X : Sg → Prop), I (x :: xs) a → (∀ a', I xs a' → X a') → ag x a (body { nx := X, rt := En.rt, bk := En.nx, ct := X })) → (∀ a, I [] a → En.nx a) → I ds a → forW ag body En ds a
  | [], a, _, q, i => q a i
  | x :: xs, a, h, q, i => h x xs a _ i fun a' i' => for_of I h q i'
theorem wh_of {t : AT} (I : Nat → Sg → Prop) : ∀ {n : Nat} {a : Sg}, (∀ n a (X : Sg → Prop), I n a → (∀ m a', m < n → I m a' → X a') → t a fun b => (b = true → body { nx := X, rt := En.rt, bk := En.nx, ct := X } a) ∧ (b = false → En.nx a)) → I n a → ∃ k, whW t body En k a := by
  intro n a h i
  refine ⟨n + 1, ?_⟩
  have key : ∀ k n a, n < k → I n a → whW t body En k a := by
    intro k
    induction k with
    | zero => intro n a hn; omega
    | succ k ih =>
      intro n a hn i
      exact h n a _ i fun m a' hm i' => ih m a' (by omega) i'
  exact key _ n a (by omega) i
end
end Vc

set_option Elab.async false
set_option linter.all false
set_option maxRecDepth 100000
set_option maxHeartbeats 4000000
/-! A list under change on the left of ==. -/
namespace Vc
open PySem PySem.Spec PyProof.Rows L2 PySem.W Lh
def aOpB (g : PyData → PyData → (PyData → Prop) → Prop) (i : Nat) (fe : AE) : AE := fun a Q => match a[i]? with
  | some (.l xs) => fe a fun y => g (.list xs) y Q
  | _ => False
/-- what comes of g is a truth -/
def IsBl (g : PyData → PyData → (PyData → Prop) → Prop) : Prop := ∀ x y Q, g x y Q → g x y fun z => ∃ b, z = .bool b ∧ Q z
theorem bl_eqD {n : Bool} : IsBl (gEqD n) := fun x y Q ⟨h1, h2, h3⟩ => ⟨h1, h2, _, rfl, h3⟩
section
variable {S : Stt} {r : R2} {g : PyData → PyData → (PyData → Prop) → Prop} {te : TE} {fe : AE} {c : Nat} {i : Nat}
theorem evw_opB (hr : OpD S r g) (hb : IsBl g) (h : EvW S c te fe) : EvW S c (tOp r (tVar i) te) (aOpB g i fe) := fun m Γ a Q ok mt hh σ H E R q => by
  unfold aOpB at hh
  split at hh
  · rename_i xs e
    obtain ⟨p, e⟩ := mt.l e
    obtain ⟨v, h1, _⟩ := E.sl i _ e
    obtain ⟨v', h1', rfl, _⟩ := E.sl i _ e
    refine ⟨_, h1', h m Γ a _ ok mt hh σ H E.le _ fun y H1 s ⟨d, oy, k⟩ => ?_⟩
    have E1 : Env m 0 Γ σ H1 := E.step s
    obtain ⟨w, h2, rfl, k1, k2, k3, o, k4, zs, rfl, k5⟩ := E1.sl i _ e
    have tt : To m.A H1 (m.del p).A H1 := fun a o e n => ⟨e, fun z => n z.1⟩
    have E2 : Env (m.del p) 0 [] [] H1 := ⟨E1.inv, E1.fr, fun a ha => ⟨E1.sub a ha, fun z => k2 (z ▸ ha)⟩, fun a ha => E1.trk a ha.1, fun x hx => x.2.mono tt (E1.ex x hx), rfl, fun i g e => by simp at e⟩
    exact hr ok.del E2 (.lst k4 (fun z => z.2 rfl) (k5.to tt)) (oy.to tt) (hb _ _ _ k) fun z H2 dz s2 oz ⟨b, eb, kz⟩ => by
      subst eb
      cases oz
      exact q _ H2 (s.trans ⟨s2.kp, s2.inv⟩).le ⟨_, .bl b, kz⟩
  · exact hh.elim
end
section
variable {X : Cx} {S : Stt} {e2 : Expr} {te : TE} {fe : AE} {c i : Nat} {r : R2} {g : PyData → PyData → (PyData → Prop) → Prop} {x : Str} {np pos : Pos}
theorem t_cmpB (i : Nat) {op : CmpOp} (ho : OpR X (compareOp op) r) (hd : OpD S r g) (hb : IsBl g) (h : PV X S c e2 te fe) (hm : behindInMarks op e2 = false := by first | exact nomark _ | rfl) (hN : X.N[i]? = some x := by rfl) (hv : Vis X.env.scope x := by first | exact Or.inl rfl | exact Or.inr (Or.inl rfl) | exact Or.inr (Or.inr rfl)) (hdd : (x == ("__debug__" : Str)) = false := by decide)
    (hcd : (x == ("__classdict__" : Str)) = false := by decide) : PVT X S c (.Compare (.Name x np) [op] [e2] pos) (tTest (tOp r (tVar i) te)) (aT (aOpB g i fe)) := ⟨pt_cmpR ho (pe_var hN hv hdd hcd) h.pe hm, evb_test (evw_opB hd hb h.ev)⟩
end
end Vc

set_option Elab.async false
set_option linter.all false
set_option maxRecDepth 100000
set_option maxHeartbeats 4000000
/-! is True / False, places by value, lists unpacked, parts of what is a list or a tuple. -/
namespace Vc
open PySem PySem.Spec PyProof.Rows L2 PySem.W Lh
/-! ### is False -/
def gIsB (n : Bool) : PyData → PyData → (PyData → Prop) → Prop := fun x y Q => match x, y with
  | .bool a, .bool b => Q (.bool (n.xor (decide (a = b))))
  | _, _ => False
section
variable {S : Stt}
theorem opd_isB : OpD S (fun x y H Q => ∃ a b, x = .bl a ∧ y = .bl b ∧ Q (.bl (decide (a = b))) H) (gIsB false) := fun {m Γ σ H x y dx dy Q R} ok E ox oy k q => by
  unfold gIsB at k
  split at k
  · cases ox
    cases oy
    exact ⟨_, _, rfl, rfl, q _ H _ Stp.refl (by rw [Bool.false_xor]; exact .bl _) k⟩
  · exact k.elim
theorem opd_notB : OpD S (fun x y H Q => ∃ a b, x = .bl a ∧ y = .bl b ∧ Q (.bl (!decide (a = b))) H) (gIsB true) := fun {m Γ σ H x y dx dy Q R} ok E ox oy k q => by
  unfold gIsB at k
  split at k
  · cases ox
    cases oy
    exact ⟨_, _, rfl, rfl, q _ H _ Stp.refl (by rw [Bool.true_xor]; exact .bl _) k⟩
  · exact k.elim
end
/-! ### the place of an int in a list of ints -/
def aIndex (fl : AL) (fi : AE) : AE := fun a Q => fl a fun t ds => t = false ∧ fi a fun y => ∃ (ns : List Int) (i : Int) (j : Nat), ds = ns.map .int ∧ y = .int i ∧ ns[j]? = some i ∧ (∀ m < j, ns[m]? ≠ some i) ∧ Q (.int (j : Nat))
section
variable {X : Cx} {S : Stt} {e ei : Expr} {te ti : TE} {fl : AL} {fi : AE} {K : Frag} {ce ci : Nat}
theorem evw_index (h : EvS S ce te fl) (h2 : EvW S ci ti fi) : EvW S (ce + ci) (tBM K "list" (rIndex K) te (tCons ti tNil)) (aIndex fl fi) := fun m Γ a Q ok mt hh σ H E R q =>
  h m Γ a _ ok mt hh σ H E.le _ fun b t xs ds H1 s o ⟨e0, k⟩ => by
      subst e0
      have hb : H1 b = some (.lst xs) := o.hb
      refine ⟨.inl ⟨rfl, xs, .inl (.inl hb)⟩, h2 m Γ a _ ok mt k σ H1 (E.step s) _ fun v H2 s2 ⟨d, ov, ns, i, j, e1, e2, hj, hm, kq⟩ => ?_⟩
      subst e1 e2
      cases ov
      have o2 := o.step s2 E.sub
      have hx := o2.it.ints
      subst hx
      have hb2 : H2 b = some (.lst (ns.map V.int)) := o2.hb
      refine ⟨b, ns.map V.int, .int i, j, .int i, rfl, rfl, .inl (.inl hb2), rfl, ?_, by rw [List.getElem?_map, hj]; rfl, by show (i == i) = true; exact beq_self_eq_true _, fun m' z' hm' hz' => ?_, q _ H2 (s.trans s2).le ⟨_, .int _, kq⟩⟩
      · rw [List.all_eq_true]
        intro v hv
        obtain ⟨n, _, rfl⟩ := List.mem_map.mp hv
        rfl
      · rw [List.getElem?_map] at hz'
        cases hn : ns[m']? with
        | none => rw [hn] at hz'; cases hz'
        | some n =>
          rw [hn] at hz'
          cases hz'
          show (n == i) = false
          refine beq_eq_false_iff_ne.mpr fun z => hm m' hm' ?_
          rw [hn, z]
theorem e_index (K : Frag) {apos cpos : Pos} (h : PVS X S ce e te fl) (h2 : PV X S ci ei ti fi) (hb : attributeBase e "index" X.env (eval e X.env) = eval e X.env := by rfl)
    (h2' : ((backTo cpos (starEach [ei] X.env)).all (fun x => !x.1) && (backToKw cpos (keywordEach [] X.env)).all (fun x => x.1.isSome) && decide ([ei].length + ([] : List Keyword).length + (if ([] : List Keyword).isEmpty then 0 else 1) < 30)) = true := by rfl)
    (h3 : (apos.endLine == cpos.line) = true := by rfl) (h4 : starEach [ei] X.env = (false, eval ei X.env) :: starEach [] X.env := by rfl) (h5 : (backTo cpos (starEach [] X.env)).any (·.1) = false := by rfl) (hK : X.K = K := by rfl) :
    PV X S (ce + ci) (.Call (.Attribute e "index" apos) [ei] [] cpos) (tBM K "list" (rIndex K) te (tCons ti tNil)) (aIndex fl fi) :=
  ⟨k_bm K PySem.F.plainAttrs_list PySem.F.slot_list_index PySem.F.type_list_index (hK ▸ mt_index) h.pe (pa_cons h2.pe pa_nil h4) hb h2' h3 h4 h5 hK, evw_index h.ev h2.ev⟩
end
/-! ### a list unpacked -/
def agLst (gs : AGs) : AG := fun x a P => match x with
  | .list xs => gs xs a P
  | _ => False
section
variable {X : Cx} {S : Stt} {es : List Expr} {t : TGs} {ags : AGs} {us : List Nat} {n : Nat} {pos : Pos} {K : Frag}
theorem tgw_lst (h : TgsW S us n t ags) : TgW S us (gUnl K n t) (agLst ags) := fun m Γ a x P ok mt h1 => by
  cases x with
  | list xs =>
    obtain ⟨hl, Γ2, a2, t2, m2, f2, k2⟩ := h m Γ a xs P ok mt h1
    refine ⟨Γ2, a2, fun k σ H v E o Q q => ?_, m2, f2, k2⟩
    obtain ⟨b, zs, rfl, h3, h4, h5⟩ := Dq.list (show Dq m.A H v (.list xs) from o)
    exact ⟨b, zs, rfl, .inl (.inl h3), by rw [h5.length, hl], t2 k σ H zs E h5 Q q⟩
  | _ => exact h1.elim
theorem g_lst (K : Frag) {k : Nat} (hc : X.calm = true) (h : PVGs X S us n es t ags) (hn : (assignEach es X.env).length = n := by rfl) (hst : (assignEach es X.env).findIdx? (·.1) = none := by rfl) (hK : X.K = K := by rfl) :
    PVG X S us (.Tuple es k pos) (gUnl K n t) (agLst ags) := ⟨hK ▸ pg_unl hc h.pe hn hst, tgw_lst h.ev⟩
end
/-! ### a part of a list or a tuple -/
def aSlA (fl : AL) (lo hi : AO) : AE := fun a Q => fl a fun t ds => lo a fun l => hi a fun h => Q (if t then .tuple (cutD ds l h) else .list (cutD ds l h))
section
variable {X : Cx} {S : Stt} {e : Expr} {te : TE} {fl : AL} {pos p2 : Pos} {K : Frag} {tl th : TO} {al ah : AO} {lo hi : Option Expr} {c_te c_tl c_th : Nat}
abbrev rSlX (K : Frag) : V → Option Int → Option Int → Hp → VK → Prop := fun x l h H Q => rSlL K x l h H Q ∨ rSlA K x l h H Q
theorem evw_slA (h : EvS S c_te te fl) (h1 : EvO S c_tl tl al) (h2 : EvO S c_th th ah) : EvW S (c_te + c_tl + c_th) (tSl (rSlX K) te tl th) (aSlA fl al ah) := fun m Γ a Q ok mt hh σ H E R q =>
  h m Γ a _ ok mt hh σ H E.le _ fun b t xs ds H1 s o k => h1 m Γ a _ ok mt k σ H1 (E.step s) _ fun l H2 s2 k2 => h2 m Γ a _ ok mt k2 σ H2 (E.step (s.trans s2)) _ fun u H3 s3 k3 => by
    have o3 := o.step (s2.trans s3) E.sub
    have st := ((s.trans s2).trans s3)
    cases t with
    | true =>
      refine .inr ⟨b, xs, rfl, .inl (RdF.rd o3.hb), fun hw => q _ H3 st.le ⟨_, ?_, k3⟩, fun _ p hp => q _ _ (st.trans (Stp.new hp)).le ⟨_, Dq.newT (Env.free (E.step (r := 0) st) hp) hp (cut_it o3.it l u), k3⟩⟩
      have e : cutD ds l u = ds := by
        unfold cutD
        rw [← o3.it.length, hw.1, hw.2, o3.it.length]
        simp
      rw [e]
      exact .tup o3.hb (o3.A rfl) o3.it
    | false =>
      exact .inl ⟨b, xs, rfl, .inl (.inl o3.hb), fun p hp => q _ _ (st.trans (Stp.new hp)).le ⟨_, Dq.newL (Env.free (E.step (r := 0) st) hp) hp (cut_it o3.it l u), k3⟩⟩
theorem e_slA (K : Frag) (h : PVS X S c_te e te fl) (h1 : PVO X S c_tl lo tl al) (h2 : PVO X S c_th hi th ah) (hK : X.K = K := by rfl) : PV X S (c_te + c_tl + c_th) (.Subscript e (.Slice lo hi none p2) pos) (tSl (rSlX K) te tl th) (aSlA fl al ah) := ⟨pe_slice (SlR.or (k_slL K hK) (hK ▸ sl_tupA)) h.pe h1.pe h2.pe, evw_slA h.ev h1.ev h2.ev⟩
end
end Vc

set_option Elab.async false
set_option linter.all false
set_option maxRecDepth 100000
set_option maxHeartbeats 4000000
/-! Dicts: as data, and under change. -/
namespace Vc
open PySem PySem.Spec PyProof.Rows L2 PySem.W Lh
/-- a key -/
def gKey : PyData → (L2.Key → Prop) → Prop := fun x Q => match x with
  | .int i => Q (.inl i)
  | .str s => Q (.inr s)
  | _ => False
theorem gKey.get {A : Addr → Prop} {H : Hp} {v : V} {d : PyData} {Q : L2.Key → Prop} (o : Dq A H v d) (k : gKey d Q) : ∃ j, v = kV j ∧ d = kD j ∧ Q j := by
  cases d with
  | int i => cases o; exact ⟨.inl i, rfl, rfl, k⟩
  | str s => cases o; exact ⟨.inr s, rfl, rfl, k⟩
  | _ => exact k.elim
/-! ### as data -/
def keyEq (d : PyData) (k : L2.Key) : Bool := match d, k with
  | .int i, .inl j => i == j
  | .str s, .inr t => s == t
  | _, _ => false
def lookD : List (PyData × PyData) → L2.Key → Option PyData
  | [], _ => none
  | (a, b) :: r, k => if keyEq a k then some b else lookD r k
theorem keyEq_kV {A : Addr → Prop} {H : Hp} {j k : L2.Key} {d : PyData} (o : Dq A H (kV j) d) : keyEq d k = true ↔ j = k := by
  cases j with
  | inl i =>
    cases o
    cases k with
    | inl i' =>
      show (i == i') = true ↔ _
      rw [beq_iff_eq]
      exact ⟨fun e => by rw [e], fun e => by injection e⟩
    | inr s => exact ⟨fun e => (by cases e), fun e => (nomatch e)⟩
  | inr s =>
    cases o
    cases k with
    | inl i' => exact ⟨fun e => (by cases e), fun e => (nomatch e)⟩
    | inr s' =>
      show (s == s') = true ↔ _
      rw [beq_iff_eq]
      exact ⟨fun e => by rw [e], fun e => by injection e⟩
theorem look_val {A : Addr → Prop} {H : Hp} (k : L2.Key) : ∀ {kvs : List (L2.Key × V)} {ds : List (PyData × PyData)}, DqA A H (kvs.map fun z => kV z.1) (ds.map (·.1)) → DqA A H (kvs.map (·.2)) (ds.map (·.2)) →
    (lookD ds k = none → valV kvs k = none) ∧ ∀ d, lookD ds k = some d → ∃ v, valV kvs k = some v ∧ Dq A H v d
  | [], [], _, _ => ⟨fun _ => rfl, fun d e => by cases e⟩
  | z :: kvs, (a, b) :: ds, .cons h1 t1, .cons h2 t2 => by
    obtain ⟨r1, r2⟩ := look_val k t1 t2
    by_cases hk : z.1 = k
    · have e : keyEq a k = true := (keyEq_kV h1).mpr hk
      refine ⟨fun n => ?_, fun d n => ?_⟩
      · unfold lookD at n
        rw [if_pos e] at n
        cases n
      · unfold lookD at n
        rw [if_pos e] at n
        cases n
        exact ⟨_, valV_pos hk, h2⟩
    · have e : ¬ keyEq a k = true := fun z => hk ((keyEq_kV h1).mp z)
      refine ⟨fun n => ?_, fun d n => ?_⟩
      · unfold lookD at n
        rw [if_neg e] at n
        rw [valV_neg hk]
        exact r1 n
      · unfold lookD at n
        rw [if_neg e] at n
        rw [valV_neg hk]
        exact r2 d n
theorem Dq.dict {A : Addr → Prop} {H : Hp} {v : V} {ds : List (PyData × PyData)} (h : Dq A H v (.dict ds)) (hn : isO ds = false) : ∃ a kvs, v = .ref a ∧ Rd H a (.dK kvs) ∧ ¬ A a ∧ DqA A H (kvs.map fun z => kV z.1) (ds.map (·.1)) ∧ DqA A H (kvs.map (·.2)) (ds.map (·.2)) := by
  cases h with
  | dct h1 h2 h3 h4 => exact ⟨_, _, rfl, h1, h2, h3, h4⟩
  | obj _ _ _ _ => cases hn
theorem DGet.rd {H : Hp} {a : Addr} {kvs : List (L2.Key × V)} (k : L2.Key) (e : Rd H a (.dK kvs)) : DGet H a (kV k) (valV kvs k) := .inl ⟨kvs, k, e, rfl, rfl⟩
/-- d.get(k, x) -/
def aGet2 (fd fk fx : AE) : AE := fun a Q => fd a fun x => fk a fun y => fx a fun z => match x with
  | .dict ds => gKey y fun k => Q ((lookD ds k).getD z)
  | _ => False
/-- d[k] -/
def gDIx : PyData → PyData → (PyData → Prop) → Prop := fun x y Q => match x with
  | .dict ds => isO ds = false ∧ gKey y fun k => ∃ d, lookD ds k = some d ∧ Q d
  | _ => False
section
variable {X : Cx} {S : Stt} {e ek ex : Expr} {td tk tx : TE} {fd fk fx : AE} {c_d c_k c_x : Nat} {apos cpos pos : Pos}
theorem evw_get2 (h : EvW S c_d td fd) (h1 : EvW S c_k tk fk) (h2 : EvW S c_x tx fx) (hd : ∀ a (Q : PyData → Prop), fd a Q → fd a fun x => Q x ∧ ∃ ds, x = .dict ds ∧ isO ds = false) : EvW S (c_d + c_k + c_x) (tDGet2 td tk tx) (aGet2 fd fk fx) := fun m Γ a Q ok mt hh σ H E R q =>
  h m Γ a _ ok mt (hd a _ hh) σ H E.le _ fun v H1 s ⟨d, o, k, ds, e, hn⟩ => by
    subst e
    obtain ⟨b, kvs, rfl, hr, _, o1, o2⟩ := Dq.dict o hn
    refine ⟨b, rfl, .inl ⟨kvs, hr⟩, h1 m Γ a _ ok mt k σ H1 (E.step s) _ fun y H2 s2 ⟨dy, oy, k2⟩ => h2 m Γ a _ ok mt k2 σ H2 (E.step (s.trans s2)) _ fun z H3 s3 ⟨dz, oz, k3⟩ => ?_⟩
    have o3 := o.to ((s2.trans s3).to E.sub)
    obtain ⟨b', kvs', e', hr', _, o1', o2'⟩ := Dq.dict o3 hn
    cases e'
    obtain ⟨j, rfl, rfl, kq⟩ := gKey.get oy k3
    obtain ⟨r1, r2⟩ := look_val j o1' o2'
    refine ⟨_, DGet.rd j hr', ?_⟩
    cases hl : lookD ds j with
    | none =>
      rw [hl] at kq
      rw [r1 hl]
      exact q _ H3 ((s.trans s2).trans s3).le ⟨_, oz, kq⟩
    | some dd =>
      rw [hl] at kq
      obtain ⟨v, hv, ov⟩ := r2 dd hl
      rw [hv]
      exact q _ H3 ((s.trans s2).trans s3).le ⟨_, ov, kq⟩
theorem evw_dix (h : EvW S c_d td fd) (h1 : EvW S c_k tk fk) : EvW S (c_d + c_k) (tDGet td tk) (aOp gDIx fd fk) := fun m Γ a Q ok mt hh σ H E R q =>
  h m Γ a _ ok mt hh σ H E.le _ fun v H1 s ⟨d, o, k⟩ => h1 m Γ a _ ok mt k σ H1 (E.step s) _ fun y H2 s2 ⟨dy, oy, k2⟩ => by
    cases d with
    | dict ds =>
      obtain ⟨b, kvs, rfl, hr, _, o1, o2⟩ := Dq.dict (o.to (s2.to E.sub)) k2.1
      obtain ⟨j, rfl, rfl, dd, hl, kq⟩ := gKey.get (Q := fun k => ∃ d, lookD ds k = some d ∧ Q d) oy k2.2
      obtain ⟨_, r2⟩ := look_val j o1 o2
      obtain ⟨v, hv, ov⟩ := r2 dd hl
      exact ⟨b, v, rfl, hv ▸ DGet.rd j hr, q _ H2 (s.trans s2).le ⟨_, ov, kq⟩⟩
    | _ => exact k2.elim
theorem isDict_c {x : List (PyData × PyData)} (hn : isO x = false := by rfl) : ∀ (a : Sg) (Q : PyData → Prop), aC (.dict x) a Q → aC (.dict x) a fun z => Q z ∧ ∃ ds, z = .dict ds ∧ isO ds = false := fun a Q h => ⟨h, _, rfl, hn⟩
theorem e_get2 (hu : X.A.units + 1 < cLine) (h : PV X S c_d e td fd) (h1 : PV X S c_k ek tk fk) (h2 : PV X S c_x ex tx fx) (hd : ∀ a (Q : PyData → Prop), fd a Q → fd a fun x => Q x ∧ ∃ ds, x = .dict ds ∧ isO ds = false) (m : M2 X e "get" apos ek ex cpos := by exact ⟨rfl, rfl, rfl, rfl⟩) :
    PV X S (c_d + c_k + c_x) (.Call (.Attribute e "get" apos) [ek, ex] [] cpos) (tDGet2 td tk tx) (aGet2 fd fk fx) := ⟨pe_dget2 hu h.pe h1.pe h2.pe m, evw_get2 h.ev h1.ev h2.ev hd⟩
theorem e_dix (hu : X.A.units + 1 < cLine) (h : PV X S c_d e td fd) (h1 : PV X S c_k ek tk fk) (hs : NoSl ek := by first | exact trivial | (intro _ _; rfl) | rfl) : PV X S (c_d + c_k) (.Subscript e ek pos) (tDGet td tk) (aOp gDIx fd fk) := ⟨pe_dget hu h.pe h1.pe hs, evw_dix h.ev h1.ev⟩
end
/-! ### under change -/
def dVal : List (L2.Key × PyData) → L2.Key → Option PyData
  | [], _ => none
  | (j, x) :: r, k => if j = k then some x else dVal r k
def dPut (kvs : List (L2.Key × PyData)) (k : L2.Key) (x : PyData) : List (L2.Key × PyData) :=
  if kvs.any (fun kv => decide (kv.1 = k)) then kvs.map (fun kv => if kv.1 = k then (kv.1, x) else kv) else kvs ++ [(k, x)]
theorem dval_val {A : Addr → Prop} {H : Hp} (k : L2.Key) : ∀ {kw : List (L2.Key × V)} {kvs : List (L2.Key × PyData)}, kw.map Prod.fst = kvs.map Prod.fst → DqA A H (kw.map Prod.snd) (kvs.map Prod.snd) →
    (dVal kvs k = none → valV kw k = none) ∧ ∀ d, dVal kvs k = some d → ∃ v, valV kw k = some v ∧ Dq A H v d
  | [], [], _, _ => ⟨fun _ => rfl, fun d e => by cases e⟩
  | z :: kw, (j, x) :: kvs, e, .cons h t => by
    injection e with e1 e2
    obtain ⟨r1, r2⟩ := dval_val k e2 t
    have e1' : z.1 = j := e1
    by_cases hk : j = k
    · refine ⟨fun n => ?_, fun d n => ?_⟩
      · unfold dVal at n
        rw [if_pos hk] at n
        cases n
      · unfold dVal at n
        rw [if_pos hk] at n
        cases n
        exact ⟨_, valV_pos (e1'.trans hk), h⟩
    · have hz : ¬ z.1 = k := fun z => hk (e1'.symm.trans z)
      refine ⟨fun n => ?_, fun d n => ?_⟩
      · unfold dVal at n
        rw [if_neg hk] at n
        rw [valV_neg hz]
        exact r1 n
      · unfold dVal at n
        rw [if_neg hk] at n
        rw [valV_neg hz]
        exact r2 d n
theorem any_keys {k : L2.Key} : ∀ {kw : List (L2.Key × V)} {kvs : List (L2.Key × PyData)}, kw.map Prod.fst = kvs.map Prod.fst → (kw.any fun kv => decide (kv.1 = k)) = kvs.any fun kv => decide (kv.1 = k)
  | [], [], _ => rfl
  | z :: kw, y :: kvs, e => by
    injection e with e1 e2
    rw [List.any_cons, List.any_cons, any_keys e2, show z.1 = y.1 from e1]
theorem map_put {A : Addr → Prop} {H : Hp} {k : L2.Key} {v : V} {x : PyData} (o : Dq A H v x) : ∀ {kw : List (L2.Key × V)} {kvs : List (L2.Key × PyData)}, kw.map Prod.fst = kvs.map Prod.fst → DqA A H (kw.map Prod.snd) (kvs.map Prod.snd) →
    (kw.map fun kv => if kv.1 = k then (kv.1, v) else kv).map Prod.fst = (kvs.map fun kv => if kv.1 = k then (kv.1, x) else kv).map Prod.fst ∧
    DqA A H ((kw.map fun kv => if kv.1 = k then (kv.1, v) else kv).map Prod.snd) ((kvs.map fun kv => if kv.1 = k then (kv.1, x) else kv).map Prod.snd)
  | [], [], _, _ => ⟨rfl, .nil⟩
  | z :: kw, y :: kvs, e, .cons h t => by
    injection e with e1 e2
    obtain ⟨r1, r2⟩ := map_put (k := k) o e2 t
    have e1' : z.1 = y.1 := e1
    simp only [List.map_cons]
    by_cases hk : y.1 = k
    · rw [if_pos hk, if_pos (e1'.trans hk)]
      exact ⟨by rw [r1, e1'], .cons o r2⟩
    · rw [if_neg hk, if_neg (fun z => hk (e1'.symm.trans z))]
      exact ⟨by rw [r1, e1'], .cons h r2⟩
theorem put_ok {A : Addr → Prop} {H : Hp} {k : L2.Key} {v : V} {x : PyData} (o : Dq A H v x) {kw : List (L2.Key × V)} {kvs : List (L2.Key × PyData)} (e : kw.map Prod.fst = kvs.map Prod.fst) (h : DqA A H (kw.map Prod.snd) (kvs.map Prod.snd)) :
    (putK kw k v).map Prod.fst = (dPut kvs k x).map Prod.fst ∧ DqA A H ((putK kw k v).map Prod.snd) ((dPut kvs k x).map Prod.snd) := by
  unfold putK dPut
  rw [any_keys e]
  by_cases hk : (kvs.any fun kv => decide (kv.1 = k)) = true
  · rw [if_pos hk, if_pos hk]
    exact map_put o e h
  · rw [if_neg hk, if_neg hk]
    refine ⟨by rw [List.map_append, List.map_append, e]; rfl, ?_⟩
    rw [List.map_append, List.map_append]
    exact h.append (.cons o .nil)
/-- the pairs of a display -/
abbrev AP := Sg → (List (PyData × PyData) → Prop) → Prop
def EvPs (S : Stt) (c : Nat) (trs : List (TE × TE)) (ap : AP) : Prop := ∀ m Γ a Q, Ok S m → Mt S.p a Γ → ap a Q → ∀ σ H, Env m c Γ σ H → ∀ R : List (V × V) → Hp → Prop,
  (∀ ps ds H', Stp m c H H' → DqA m.A H' (ps.map Prod.fst) (ds.map Prod.fst) → DqA m.A H' (ps.map Prod.snd) (ds.map Prod.snd) → Q ds → R ps H') → tPairs trs σ H R
structure PVP (X : Cx) (S : Stt) (c : Nat) (pos : Pos) (keys : List (Option Expr)) (vals : List Expr) (trs : List (TE × TE)) (ap : AP) : Prop where
  pe : PPs X pos keys vals trs
  ev : EvPs S c trs ap
def apNil : AP := fun _ Q => Q []
def apCons (fk fv : AE) (r : AP) : AP := fun a Q => fk a fun x => fv a fun y => r a fun ds => Q ((x, y) :: ds)
section
variable {X : Cx} {S : Stt} {e ek ev : Expr} {tk tv : TE} {fk fv : AE} {ap : AP} {c_k c_v c_r : Nat} {pos : Pos} {keys : List (Option Expr)} {vals : List Expr} {trs : List (TE × TE)} {κ : Bool} {i : Nat}
theorem evps_nil : EvPs S 0 [] apNil := fun m Γ a Q ok mt h σ H E R q => q [] [] H Stp.refl .nil .nil h
theorem evps_cons (h1 : EvW S c_k tk fk) (h2 : EvW S c_v tv fv) (h3 : EvPs S c_r trs ap) : EvPs S (c_k + c_v + c_r) ((tk, tv) :: trs) (apCons fk fv ap) := fun m Γ a Q ok mt h σ H E R q =>
  h1 m Γ a _ ok mt h σ H E.le _ fun x H1 s1 ⟨dx, ox, k1⟩ => h2 m Γ a _ ok mt k1 σ H1 (E.step s1) _ fun y H2 s2 ⟨dy, oy, k2⟩ => h3 m Γ a _ ok mt k2 σ H2 (E.step (s1.trans s2)) _ fun ps ds H3 s3 o1 o2 k3 =>
    q ((x, y) :: ps) ((dx, dy) :: ds) H3 ((s1.trans s2).trans s3).le (.cons (ox.to ((s2.trans s3).to E.sub)) o1) (.cons (oy.to (s3.to E.sub)) o2) k3
theorem p_nil : PVP X S 0 pos [] [] [] apNil := ⟨pps_nil, evps_nil⟩
theorem p_cons (h1 : PV X S c_k ek tk fk) (h2 : PV X S c_v ev tv fv) (h3 : PVP X S c_r pos keys vals trs ap) : PVP X S (c_k + c_v + c_r) pos (some ek :: keys) (ev :: vals) ((tk, tv) :: trs) (apCons fk fv ap) := ⟨pps_cons h1.pe h2.pe h3.pe, evps_cons h1.ev h2.ev h3.ev⟩
/-- x = {k: v, ..}, to be changed -/
def aSetM (i : Nat) (ap : AP) : AS := fun En a => ap a fun ds => ∃ kvs : List (L2.Key × PyData), ds = kvs.map (fun z => (kD z.1, z.2)) ∧ (kvs.map Prod.fst).Nodup ∧ kvs.length ≤ 15 ∧ En.nx (a.set i (.m kvs))
theorem ps_kws {A : Addr → Prop} {H : Hp} : ∀ {ps : List (V × V)} {kvs : List (L2.Key × PyData)}, DqA A H (ps.map Prod.fst) ((kvs.map fun z => (kD z.1, z.2)).map Prod.fst) → DqA A H (ps.map Prod.snd) ((kvs.map fun z => (kD z.1, z.2)).map Prod.snd) →
    ∃ kw : List (L2.Key × V), ps = kw.map (fun kv => (kV kv.1, kv.2)) ∧ kw.map Prod.fst = kvs.map Prod.fst ∧ DqA A H (kw.map Prod.snd) (kvs.map Prod.snd)
  | [], [], _, _ => ⟨[], rfl, rfl, .nil⟩
  | p :: ps, z :: kvs, .cons h1 t1, .cons h2 t2 => by
    obtain ⟨kw, e1, e2, e3⟩ := ps_kws t1 t2
    have e := Dq.ofK h1
    refine ⟨(z.1, p.2) :: kw, ?_, by rw [List.map_cons, List.map_cons, e2], .cons h2 e3⟩
    rw [List.map_cons, ← e1]
    show p :: ps = (kV z.1, p.2) :: ps
    rw [← e]
theorem Env.newM0 {k : Nat} {m : Md} {Γ : Gam} {σ : L2.St} {H : Hp} {q : Addr} {o : HO} (E : Env m k Γ σ H) (hq : H q = none) (tk : Tk (some o) := by first | exact Tk.lst | exact Tk.dK | exact Tk.dT) : Env (m.add q) k Γ σ (upd H q o) := by
  have s : Stp m 0 H (upd H q o) := Stp.new hq
  have E1 : Env m k Γ σ (upd H q o) := E.step s
  have tt : To m.A H (m.add q).A (upd H q o) := fun a u e n => ⟨s.kp a u e fun z => n (E.sub a z), fun z => z.elim n (ne_of_none e hq)⟩
  refine ⟨E1.inv, E1.fr, fun a ha => .inl (E.sub a ha), fun a ha => ?_, fun x hx => x.2.mono tt (E.ex x hx), E.len, fun i g e => ?_⟩
  · rcases ha with ha | rfl
    · exact E1.trk a ha
    · rw [upd_same]; exact tk
  · obtain ⟨v, h1, h2⟩ := E.sl i g e
    refine ⟨v, h1, ?_⟩
    cases g with
    | im f => exact f.mono tt h2
    | box p b =>
      obtain ⟨e1, h3, h4, h5, u, h6, h7⟩ := h2
      exact ⟨e1, .inl h3, h4, h5, u, s.kp p u h6 h4, b.mono tt h7⟩
theorem stw_setM (he : EvPs S c_r trs ap) : StW S κ c_r (tAsg (tDisp trs) (gName i)) (aSetM i ap) := fun F De En a σ H kr c ⟨m, Γ, f, mt, d, E⟩ h => fun p hp => by
  have E0 : Env (m.add p) (c_r + kr) Γ σ (upd H p (.dK [])) := Env.newM0 E hp
  have nM : ¬ m.M p := Env.freeM E hp
  refine he (m.add p) Γ a _ f.ok.add mt h σ _ E0.le _ fun ps ds H2 s o1 o2 k => ?_
  obtain ⟨kvs, rfl, nd, h15, k⟩ := k
  obtain ⟨kw, e1, e2, o3⟩ := ps_kws o1 o2
  have hl : kw.length = kvs.length := by
    have := congrArg List.length e2
    simpa using this
  have nd' : ((([] : List (L2.Key × V)) ++ kw).map (·.1)).Nodup := by
    rw [List.nil_append]
    show (kw.map Prod.fst).Nodup
    rw [e2]
    exact nd
  have h2p : H2 p = some (.dK []) := s.kp p _ upd_same nM
  refine ⟨h2p, kw, e1, by rw [hl]; exact h15, ?_⟩
  rw [mergeK_new nd', List.nil_append]
  have E2 : Env (m.add p) kr Γ σ H2 := E0.step s
  have nb : NoBox p Γ := E.noBox hp
  have kk : To (m.add p).A H2 (m.add p).A (upd H2 p (.dK kw)) := fun b u e n => ⟨by rw [upd_ne fun z => n (.inr z)]; exact e, n⟩
  have E3 : Env (m.add p) kr Γ σ (upd H2 p (.dK kw)) := by
    refine ⟨?_, fun b u e nm => ?_, E2.sub, fun b hb => ?_, fun x hx => x.2.mono kk (E2.ex x hx), E2.len, fun j g e => ?_⟩
    · obtain ⟨n, ho, hI⟩ := E2.inv
      exact ⟨n, ho, (m.add p).imono hI fun b u e hm => by
        rw [upd_ne fun z => nM (by rw [← z]; exact hm)]
        exact e⟩
    · have hne : b ≠ p := fun z => by
        have : m.H0 p = none := E.free0 hp
        rw [z] at e
        rw [show (m.add p).H0 = m.H0 from rfl, this] at e
        cases e
      rw [upd_ne hne]
      exact E2.fr b u e nm
    · by_cases hb2 : b = p
      · rw [hb2, upd_same]; exact Tk.dK
      · rw [upd_ne hb2]; exact E2.trk b hb
    · obtain ⟨v, h1, h2⟩ := E2.sl j g e
      refine ⟨v, h1, ?_⟩
      cases g with
      | im f => exact f.mono kk h2
      | box q b =>
        obtain ⟨e1, h3, h4, h5, u, h6, h7⟩ := h2
        have hne : q ≠ p := nb j q b e
        exact ⟨e1, h3, h4, h5, u, by rw [upd_ne hne]; exact h6, b.mono kk h7⟩
  exact c.nx _ _ _ ⟨m.add p, _, f.add, mt.set (.m kvs p), d.setB (NoBox.wk nb), E3.set ⟨rfl, .inr rfl, nM, E.free0 hp, _, upd_same, kw, rfl, e2, o3.to kk⟩⟩ k
theorem s_setM {x : Str} {px pd : Pos} (hN : X.N.Nodup) (hi : X.N[i]? = some x) (hx : Loc X.env.scope x) (he : PVP X S c_r pd keys vals trs ap) (hall : keys.all (·.isSome) = true := by rfl) (hl : keys.length = vals.length := by rfl) (h0 : keys ≠ [] := by simp) (h15 : keys.length ≤ 15 := by decide)
    (hs : swapsWith (.Dict keys vals pd) (some (.Name x px)) pos.line X.env = pure false := by rfl) (hf : X.fn x = true ∨ X.env.scope.names.lookup x = some .local := by first | exact .inl rfl | exact .inr rfl | assumption) :
    PVst X S κ c_r (.Assign [.Name x px] (.Dict keys vals pd) pos) (tAsg (tDisp trs) (gName i)) (aSetM i ap) := ⟨ps_set hN hi hx (pe_disp he.pe hall hl h0 h15) hs hf, stw_setM he.ev⟩
/-- x[k] = v -/
def aPutM (i : Nat) (fk fv : AE) : AS := fun En a => fv a fun x => match a[i]? with
  | some (.m kvs) => fk a fun y => gKey y fun k => kvs.length < sizeLine ∧ En.nx (a.set i (.m (dPut kvs k x)))
  | _ => False
theorem Rep.boxM {F : Fa} {k : Nat} {m : Md} {Γ : Gam} {a : Sg} {σ : L2.St} {H : Hp} {i : Nat} {q : Addr} {b : Bx} {kvs : List (L2.Key × PyData)} {kw : List (L2.Key × V)} (f : Fits S F m) (d : Dis Γ) (mt : Mt S.p a Γ) (E : Env m k Γ σ H) (e : Γ[i]? = some (some (.box q b))) (e1 : kw.map Prod.fst = kvs.map Prod.fst) (o : DqA m.A H (kw.map Prod.snd) (kvs.map Prod.snd)) : Rep S F k (a.set i (.m kvs)) σ (upd H q (.dK kw)) :=
  ⟨m, _, f, mt.set (.m kvs q), d.setB (d.alone e), E.rebox (b' := bM kvs) e (d.alone e) ⟨kw, rfl, e1, o⟩⟩
theorem stw_putM (hv : EvW S c_v tv fv) (hk : EvW S c_k tk fk) : StW S κ (c_v + c_k) (sDPut (tVar i) tk tv) (aPutM i fk fv) := fun F De En a σ H kr c ⟨m, Γ, f, mt, d, E⟩ h =>
  hv m Γ a _ f.ok mt h σ H E.le _ fun y H1 s ⟨x, oy, k⟩ => by
    have E1 : Env m (c_k + kr) Γ σ H1 := E.step s
    split at k
    · rename_i kvs e
      obtain ⟨q, e⟩ := mt.m e
      obtain ⟨v, h1, _⟩ := E1.sl i _ e
      obtain ⟨v', h1', rfl, _⟩ := E1.sl i _ e
      refine ⟨_, h1', hk m Γ a _ f.ok mt k σ H1 E1.le _ fun w H2 s2 ⟨dw, ow, k6⟩ => ?_⟩
      have E2 : Env m kr Γ σ H2 := E1.step s2
      obtain ⟨w', h2, rfl, k1, k2, k3, o, k4, kw, rfl, e1, k5⟩ := E2.sl i _ e
      obtain ⟨j, rfl, rfl, hz, k7⟩ := gKey.get ow k6
      have hl : kw.length = kvs.length := by
        have := congrArg List.length e1
        simpa using this
      obtain ⟨p1, p2⟩ := put_ok (k := j) (oy.to (s2.to E.sub)) e1 k5
      exact ⟨q, _, rfl, DPut.k k4 (by rw [hl]; exact hz), c.nx _ _ _ (Rep.boxM f d mt E2 e p1 p2) k7⟩
    · exact k.elim
theorem s_putM (i : Nat) {x : Str} {np p2 : Pos} (hu : X.A.units + 1 < cLine) (hv : PV X S c_v ev tv fv) (hk : PV X S c_k ek tk fk) (hs : swapsWith ev (some (.Subscript (.Name x np) ek p2)) pos.line X.env = pure false := by rfl) (hN : X.N[i]? = some x := by rfl) (hvx : Vis X.env.scope x := by first | exact Or.inl rfl | exact Or.inr (Or.inl rfl) | exact Or.inr (Or.inr rfl)) (hd : (x == ("__debug__" : Str)) = false := by decide)
    (hcd : (x == ("__classdict__" : Str)) = false := by decide) : PVst X S κ (c_v + c_k) (.Assign [.Subscript (.Name x np) ek p2] ev pos) (sDPut (tVar i) tk tv) (aPutM i fk fv) := ⟨ps_dput hu (pe_var hN hvx hd hcd) hk.pe hv.pe hs, stw_putM hv.ev hk.ev⟩
/-- k in x, k not in x -/
def aInM (n : Bool) (i : Nat) (fk : AE) : AE := fun a Q => fk a fun y => match a[i]? with
  | some (.m kvs) => gKey y fun k => Q (.bool (n.xor (dVal kvs k).isSome))
  | _ => False
/-- x[k] -/
def aIxM (i : Nat) (fk : AE) : AE := fun a Q => match a[i]? with
  | some (.m kvs) => fk a fun y => gKey y fun k => ∃ d, dVal kvs k = some d ∧ Q d
  | _ => False
/-- x.get(k, d) -/
def aGetM (i : Nat) (fk fx : AE) : AE := fun a Q => match a[i]? with
  | some (.m kvs) => fk a fun y => fx a fun z => gKey y fun k => Q ((dVal kvs k).getD z)
  | _ => False
/-- x.get(k, d) -/
theorem evw_inM (hk : EvW S c_k tk fk) : EvW S c_k (tDIn tk (tVar i)) (aInM false i fk) := fun m Γ a Q ok mt hh σ H E R q =>
  hk m Γ a _ ok mt hh σ H E.le _ fun y H1 s ⟨dy, oy, k⟩ => by
    split at k
    · rename_i kvs e
      obtain ⟨p, e⟩ := mt.m e
      have E1 : Env m 0 Γ σ H1 := E.step s
      obtain ⟨v, h1, rfl, k1, k2, k3, o, k4, kw, rfl, e1, k5⟩ := E1.sl i _ e
      obtain ⟨j, rfl, rfl, kq⟩ := gKey.get oy k
      refine ⟨_, h1, p, _, rfl, DGet.k k4, q _ H1 s ⟨_, .bl _, ?_⟩⟩
      obtain ⟨r1, r2⟩ := dval_val j e1 k5
      cases hl : dVal kvs j with
      | none =>
        rw [hl] at kq
        rw [r1 hl]
        exact kq
      | some dd =>
        rw [hl] at kq
        obtain ⟨v, hv, _⟩ := r2 dd hl
        rw [hv]
        exact kq
    · exact k.elim
theorem evw_notInM (hk : EvW S c_k tk fk) : EvW S c_k (tDNotIn tk (tVar i)) (aInM true i fk) := fun m Γ a Q ok mt hh σ H E R q =>
  hk m Γ a _ ok mt hh σ H E.le _ fun y H1 s ⟨dy, oy, k⟩ => by
    split at k
    · rename_i kvs e
      obtain ⟨p, e⟩ := mt.m e
      have E1 : Env m 0 Γ σ H1 := E.step s
      obtain ⟨v, h1, rfl, k1, k2, k3, o, k4, kw, rfl, e1, k5⟩ := E1.sl i _ e
      obtain ⟨j, rfl, rfl, kq⟩ := gKey.get oy k
      refine ⟨_, h1, p, _, rfl, DGet.k k4, q _ H1 s ⟨_, .bl _, ?_⟩⟩
      obtain ⟨r1, r2⟩ := dval_val j e1 k5
      cases hl : dVal kvs j with
      | none =>
        rw [hl] at kq
        rw [r1 hl]
        exact kq
      | some dd =>
        rw [hl] at kq
        obtain ⟨v, hv, _⟩ := r2 dd hl
        rw [hv]
        exact kq
    · exact k.elim
theorem evw_ixM (hk : EvW S c_k tk fk) : EvW S c_k (tDGet (tVar i) tk) (aIxM i fk) := fun m Γ a Q ok mt hh σ H E R q => by
  unfold aIxM at hh
  split at hh
  · rename_i kvs e
    obtain ⟨p, e⟩ := mt.m e
    obtain ⟨v, h1, _⟩ := E.sl i _ e
    obtain ⟨v', h1', rfl, _⟩ := E.sl i _ e
    refine ⟨_, h1', hk m Γ a _ ok mt hh σ H E.le _ fun y H1 s ⟨dy, oy, k⟩ => ?_⟩
    have E1 : Env m 0 Γ σ H1 := E.step s
    obtain ⟨w, h2, rfl, k1, k2, k3, o, k4, kw, rfl, e1, k5⟩ := E1.sl i _ e
    obtain ⟨j, rfl, rfl, dd, hl, kq⟩ := gKey.get (Q := fun k => ∃ d, dVal kvs k = some d ∧ Q d) oy k
    obtain ⟨_, r2⟩ := dval_val j e1 k5
    obtain ⟨v, hv, ov⟩ := r2 dd hl
    exact ⟨p, v, rfl, hv ▸ DGet.k k4, q _ H1 s ⟨_, ov, kq⟩⟩
  · exact hh.elim
theorem evw_getM {tx : TE} {fx : AE} {c_x : Nat} (hk : EvW S c_k tk fk) (hx : EvW S c_x tx fx) : EvW S (c_k + c_x) (tDGet2 (tVar i) tk tx) (aGetM i fk fx) := fun m Γ a Q ok mt hh σ H E R q => by
  unfold aGetM at hh
  split at hh
  · rename_i kvs e
    obtain ⟨p, e⟩ := mt.m e
    obtain ⟨v, h1, _⟩ := E.sl i _ e
    obtain ⟨v', h1', rfl, k1, k2, k3, o, k4, kw, rfl, e1, k5⟩ := E.sl i _ e
    refine ⟨_, h1', p, rfl, .inl ⟨kw, .inl k4⟩, hk m Γ a _ ok mt hh σ H E.le _ fun y H1 s ⟨dy, oy, k⟩ => hx m Γ a _ ok mt k σ H1 (E.step s) _ fun z H2 s2 ⟨dz, oz, k'⟩ => ?_⟩
    have E1 : Env m 0 Γ σ H2 := E.step (s.trans s2)
    obtain ⟨w, h2, rfl, k1, k2, k3, o, k4, kw, rfl, e1, k5⟩ := E1.sl i _ e
    obtain ⟨j, rfl, rfl, kq⟩ := gKey.get (Q := fun k => Q ((dVal kvs k).getD dz)) oy k'
    obtain ⟨r1, r2⟩ := dval_val j e1 k5
    refine ⟨_, DGet.k k4, ?_⟩
    cases hl : dVal kvs j with
    | none =>
      rw [hl] at kq
      rw [r1 hl]
      exact q _ H2 (s.trans s2).le ⟨_, oz, kq⟩
    | some dd =>
      rw [hl] at kq
      obtain ⟨v, hv, ov⟩ := r2 dd hl
      rw [hv]
      exact q _ H2 (s.trans s2).le ⟨_, ov, kq⟩
  · exact hh.elim
end
section
variable {X : Cx} {S : Stt} {ek ex : Expr} {tk tx : TE} {fk fx : AE} {c_k c_x : Nat} {pos apos cpos np : Pos} {x : Str}
theorem t_inM (i : Nat) (hu : X.A.units + 1 < cLine) (hk : PV X S c_k ek tk fk) (hm : behindInMarks .In (.Name x np) = false := by rfl) (hN : X.N[i]? = some x := by rfl) (hv : Vis X.env.scope x := by first | exact Or.inl rfl | exact Or.inr (Or.inl rfl) | exact Or.inr (Or.inr rfl)) (hd : (x == ("__debug__" : Str)) = false := by decide)
    (hcd : (x == ("__classdict__" : Str)) = false := by decide) : PVT X S c_k (.Compare ek [.In] [.Name x np] pos) (tTest (tDIn tk (tVar i))) (aT (aInM false i fk)) := ⟨pt_cmp (pc_din hu hk.pe (pe_var hN hv hd hcd)) hm, evb_test (evw_inM hk.ev)⟩
theorem t_notInM (i : Nat) (hu : X.A.units + 1 < cLine) (hk : PV X S c_k ek tk fk) (hm : behindInMarks .NotIn (.Name x np) = false := by rfl) (hN : X.N[i]? = some x := by rfl) (hv : Vis X.env.scope x := by first | exact Or.inl rfl | exact Or.inr (Or.inl rfl) | exact Or.inr (Or.inr rfl)) (hd : (x == ("__debug__" : Str)) = false := by decide)
    (hcd : (x == ("__classdict__" : Str)) = false := by decide) : PVT X S c_k (.Compare ek [.NotIn] [.Name x np] pos) (tTest (tDNotIn tk (tVar i))) (aT (aInM true i fk)) := ⟨pt_cmp (pc_dnotin hu hk.pe (pe_var hN hv hd hcd)) hm, evb_test (evw_notInM hk.ev)⟩
theorem e_ixM (i : Nat) (hu : X.A.units + 1 < cLine) (hk : PV X S c_k ek tk fk) (hs : NoSl ek := by first | exact trivial | (intro _ _; rfl) | rfl) (hN : X.N[i]? = some x := by rfl) (hv : Vis X.env.scope x := by first | exact Or.inl rfl | exact Or.inr (Or.inl rfl) | exact Or.inr (Or.inr rfl)) (hd : (x == ("__debug__" : Str)) = false := by decide)
    (hcd : (x == ("__classdict__" : Str)) = false := by decide) : PV X S c_k (.Subscript (.Name x np) ek pos) (tDGet (tVar i) tk) (aIxM i fk) := ⟨pe_dget hu (pe_var hN hv hd hcd) hk.pe hs, evw_ixM hk.ev⟩
theorem e_getM (i : Nat) (hu : X.A.units + 1 < cLine) (hk : PV X S c_k ek tk fk) (hx : PV X S c_x ex tx fx) (m : M2 X (.Name x np) "get" apos ek ex cpos := by exact ⟨rfl, rfl, rfl, rfl⟩) (hN : X.N[i]? = some x := by rfl) (hv : Vis X.env.scope x := by first | exact Or.inl rfl | exact Or.inr (Or.inl rfl) | exact Or.inr (Or.inr rfl)) (hd : (x == ("__debug__" : Str)) = false := by decide)
    (hcd : (x == ("__classdict__" : Str)) = false := by decide) : PV X S (c_k + c_x) (.Call (.Attribute (.Name x np) "get" apos) [ek, ex] [] cpos) (tDGet2 (tVar i) tk tx) (aGetM i fk fx) := ⟨pe_dget2 hu (pe_var hN hv hd hcd) hk.pe hx.pe m, evw_getM hk.ev hx.ev⟩
end
end Vc

set_option Elab.async false
set_option linter.all false
set_option maxRecDepth 100000
set_option maxHeartbeats 4000000
/-! sorted(set(pairs of small ints)). -/
namespace Vc
open PySem PySem.Spec PyProof.Rows L2 PySem.W Lh
def pairD (p : Int × Int) : PyData := .tuple [.int p.1, .int p.2]
def ltP (p q : Int × Int) : Prop := p.1 < q.1 ∨ (p.1 = q.1 ∧ p.2 < q.2)
/-- fewer than 64 pairs of ints from 0 to 63: they rise then, each once -/
def aSortSet (fl : AL) : AN := fun a Q => fl a fun t ds => t = false ∧ ∃ ps : List (Int × Int), ds = ps.map pairD ∧ ps.length < 64 ∧ (∀ p ∈ ps, 0 ≤ p.1 ∧ p.1 < 64 ∧ 0 ≤ p.2 ∧ p.2 < 64) ∧
  ∀ qs : List (Int × Int), qs.Pairwise ltP → (∀ p, p ∈ qs ↔ p ∈ ps) → Q (qs.map pairD)
theorem pairs_at {A : Addr → Prop} {H : Hp} {K : Frag} : ∀ {xs : List V} {ps : List (Int × Int)}, DqA A H xs (ps.map pairD) → ∃ ks : List (Addr × List Int), xs = ks.map (fun k => V.ref k.1) ∧ ks.map Prod.snd = ps.map (fun p => [p.1, p.2]) ∧
    (∀ k ∈ ks, RdF H k.1 (k.2.map V.int) ∧ ¬ A k.1) ∧ ks.length = ps.length
  | [], [], .nil => ⟨[], rfl, rfl, fun _ h => absurd h List.not_mem_nil, rfl⟩
  | _, p :: ps, .cons h t => by
    obtain ⟨ks, e1, e2, h3, h4⟩ := pairs_at (K := K) t
    obtain ⟨b, zs, rfl, r, n, it⟩ := Dq.tupleF (ds := [.int p.1, .int p.2]) h
    have hz : zs = [p.1, p.2].map V.int := DqA.ints (ns := [p.1, p.2]) it
    refine ⟨(b, [p.1, p.2]) :: ks, by rw [e1]; rfl, by rw [List.map_cons, e2]; rfl, fun k hk => ?_, by rw [List.length_cons, List.length_cons, h4]⟩
    rcases List.mem_cons.mp hk with rfl | hk
    · exact ⟨hz ▸ r, n⟩
    · exact h3 k hk
def backP (k : List Int) : Int × Int := (k.getD 0 0, k.getD 1 0)
section
variable {X : Cx} {S : Stt} {e : Expr} {te : TE} {fl : AL} {K : Frag} {P : Program} {w : World} {ce : Nat}
theorem evn_sortSet (h : EvS S ce te fl) : EvN S ce (tCB (rSortedT K P w) (tCons (tCB (rSetOfT K P w) (tCons te tNil)) tNil)) (aSortSet fl) := fun m Γ a Q ok mt hh σ H E R q =>
  h m Γ a _ ok mt hh σ H E.le _ fun b t xs ds H1 s o ⟨e0, ps, e1, hl, hb, k⟩ => by
    subst e0 e1
    have hxs : H1 b = some (.lst xs) := o.hb
    obtain ⟨ks, ex, ek, hk, hkl⟩ := pairs_at (K := K) o.it
    refine ⟨b, ks, rfl, .inl (.inl (by rw [← ex]; exact hxs)), fun p hp => .inl (hk p hp).1.rd, by rw [hkl]; exact hl, fun a1 L ha1 hL1 hL2 => ?_⟩
    have ne : ∀ p ∈ ks, p.1 ≠ a1 := fun p hp z => by
      obtain ⟨r, _⟩ := hk p hp
      rcases r with r | ⟨_, _, r⟩
      · rw [z, ha1] at r; cases r
      · rw [z, ha1] at r; cases r
    have rd2 : ∀ p ∈ ks, RdF (upd H1 a1 (SetTO P w a1 L)) p.1 (p.2.map V.int) := fun p hp => by
      obtain ⟨r, _⟩ := hk p hp
      exact r.imp fun o e => by rw [upd_ne (ne p hp)]; exact e
    have two : ∀ p ∈ ks, ∃ x y, p.2 = [x, y] ∧ (x, y) ∈ ps := fun p hp => by
      have : p.2 ∈ ks.map Prod.snd := List.mem_map_of_mem hp
      rw [ek] at this
      obtain ⟨z, hz, e⟩ := List.mem_map.mp this
      exact ⟨z.1, z.2, e.symm, hz⟩
    refine ⟨a1, L, 2, 64, rfl, upd_same, fun p hp => .inl (rd2 p (hL1 p hp)).rd, by decide, fun p hp => ?_, fun L' p pm nd hf pw hp => ?_⟩
    · obtain ⟨x, y, e, hm⟩ := two p (hL1 p hp)
      obtain ⟨b1, b2, b3, b4⟩ := hb _ hm
      rw [e]
      refine ⟨rfl, ?_⟩
      intro z hz
      rcases List.mem_cons.mp hz with rfl | hz
      · exact ⟨b1, b2⟩
      · rcases List.mem_cons.mp hz with rfl | hz
        · exact ⟨b3, b4⟩
        · exact absurd hz List.not_mem_nil
    · have inK : ∀ r ∈ L', r ∈ ks := fun r hr => hL1 r (pm.mem_iff.mp hr)
      have hp1 : H1 p = none := by
        by_cases z : p = a1
        · rw [z]; exact ha1
        · rw [upd_ne z] at hp
          exact hp
      have bk : ∀ r ∈ L', r.2 = [(backP r.2).1, (backP r.2).2] ∧ backP r.2 ∈ ps := fun r hr => by
        obtain ⟨x, y, e, hm⟩ := two r (inK r hr)
        rw [e]
        exact ⟨rfl, hm⟩
      have st : Stp m ce H (upd (upd H1 a1 (SetTO P w a1 L)) p (.lst (L'.map fun q => V.ref q.1))) := (s.two (ext_new ha1)).two (ext_new hp)
      refine q p (L'.map fun q => V.ref q.1) ((L'.map fun r => backP r.2).map pairD) _ st (Vc.Env.back E s hp1) upd_same ?_ (k _ ?_ fun z => ?_)
      · have nM : ¬ m.A p := Env.free (E.step (r := 0) s) hp1
        have key : ∀ l : List (Addr × List Int), (∀ r ∈ l, r ∈ L') → DqA (fun b => m.A b ∨ b = p) (upd (upd H1 a1 (SetTO P w a1 L)) p (.lst (L'.map fun q => V.ref q.1))) (l.map fun q => V.ref q.1) ((l.map fun r => backP r.2).map pairD) := by
          intro l
          induction l with
          | nil => intro _; exact .nil
          | cons r l ih =>
            intro hl
            have hr := hl r List.mem_cons_self
            have hne : r.1 ≠ p := fun z => by
              rcases rd2 r (inK r hr) with e | ⟨_, _, e⟩
              · rw [z, hp] at e; cases e
              · rw [z, hp] at e; cases e
            refine .cons (.tup (xs := [V.int (backP r.2).1, V.int (backP r.2).2]) ?_ (fun z => z.elim (hk r (inK r hr)).2 hne) (.cons (.int _) (.cons (.int _) .nil))) (ih fun r' h' => hl r' (List.mem_cons_of_mem _ h'))
            have e := (bk r hr).1
            have e2 : r.2.map V.int = [V.int (backP r.2).1, V.int (backP r.2).2] := congrArg (List.map V.int) e
            rw [← e2]
            exact (rd2 r (inK r hr)).imp fun o e => by rw [upd_ne hne]; exact e
        exact key L' fun _ h => h
      · rw [List.pairwise_map]
        rw [List.Nodup, List.pairwise_map] at nd
        have both := pw.and nd
        refine List.Pairwise.imp_of_mem (fun {r r'} hr hr' ⟨h1, h2⟩ => ?_) both
        obtain ⟨e1, m1⟩ := bk r hr
        obtain ⟨e2, m2⟩ := bk r' hr'
        obtain ⟨b1, b2, b3, b4⟩ := hb _ m1
        obtain ⟨c1, c2, c3, c4⟩ := hb _ m2
        rw [e1, e2] at h1 h2
        exact pair_lt h1 h2 ⟨b1, b2⟩ ⟨b3, b4⟩ ⟨c1, c2⟩ ⟨c3, c4⟩
      · constructor
        · intro hz
          obtain ⟨r, hr, e⟩ := List.mem_map.mp hz
          rw [← e]
          exact (bk r hr).2
        · intro hz
          have : [z.1, z.2] ∈ ks.map Prod.snd := by
            rw [ek]
            exact List.mem_map.mpr ⟨z, hz, rfl⟩
          obtain ⟨r, hr, e⟩ := List.mem_map.mp this
          have h2 := hL2 r hr
          obtain ⟨r', hr', e'⟩ := List.mem_map.mp h2
          refine List.mem_map.mpr ⟨r', pm.mem_iff.mpr hr', ?_⟩
          show backP r'.2 = z
          rw [e', e]
          rfl
theorem n_sortSet (K : Frag) (P : Program) (w : World) {p1 p2 pos pos2 : Pos} (hu : X.A.units + 64 < cLine) (hc : X.calm = true) (hm1 : X.mg "sorted" = none) (hm2 : X.mg "set" = none) (h : PVS X S ce e te fl) (hg1 : Gl X "sorted" := by rfl) (hg2 : Gl X "set" := by rfl)
    (he2 : starEach [e] X.env = (false, eval e X.env) :: starEach [] X.env := by rfl) (hpl2 : (backTo pos2 (starEach [] X.env)).any (·.1) = false := by rfl)
    (he : starEach [.Call (.Name "set" p2) [e] [] pos2] X.env = (false, eval (.Call (.Name "set" p2) [e] [] pos2) X.env) :: starEach [] X.env := by rfl) (hpl : (backTo pos (starEach [] X.env)).any (·.1) = false := by rfl)
    (hK : X.K = K := by rfl) (hP : X.prog = P := by rfl) (hw : X.w = w := by rfl) :
    PVN X S ce (.Call (.Name "sorted" p1) [.Call (.Name "set" p2) [e] [] pos2] [] pos) (tCB (rSortedT K P w) (tCons (tCB (rSetOfT K P w) (tCons te tNil)) tNil)) (aSortSet fl) := by
  subst hK hP hw
  exact ⟨pe_callB (cr_sortedT hc) hg1 hm1 (by decide +kernel) (pa_cons (pe_callTy (cr_setOfT hc hu) hg2 hm2 (by decide +kernel) (pa_cons h.pe pa_nil he2) (by decide) (by decide) he2 hpl2) pa_nil he) (by decide) (by decide) he hpl, evn_sortSet h.ev⟩
end
end Vc

set_option Elab.async false
set_option linter.all false
set_option maxRecDepth 100000
set_option maxHeartbeats 4000000
/-! zip of a text and a tuple. -/
namespace Lh
open PySem PySem.Spec PyProof.Rows L2 PySem.W
/-- the signs of x and the items of the tuple at b, in new pairs -/
def ItzS (K : Frag) (x : Str) (b : Addr) : It :=
  ⟨fun i H => ∃ (ys : List V) (c : Nat) (y : V), SqT K H b ys ∧ x.cps[i]? = some c ∧ ys[i]? = some y,
    fun i H v H' => ∃ T c y, v = .ref T ∧ H T = none ∧ H' = upd H T (.tup [.str ⟨#[c]⟩, y]) ∧ x.cps[i]? = some c ∧ ∀ ys, SqT K H b ys → ys[i]? = some y,
    fun i H => ∃ ys : List V, SqT K H b ys ∧ i ≤ x.cps.size ∧ i ≤ ys.length ∧ (i = x.cps.size ∨ i = ys.length)⟩
theorem sep_of {z TI TO i1 i2 b : Addr} (D : ZipApart z TI TO i1 i2 b b) : ZipSep2 z TI TO i1 i2 [i1] [i2, b] where
  TIz := D.TIz
  TOz := D.TOz
  TITO := D.TITO
  TIi1 := D.TIi1
  mem1 := by simp
  zf1 := by simp [D.i1z.symm]
  Tf1 := by simp [D.TOi1]
  TIi2 := D.TIi2
  mem2 := by simp
  zf2 := by simp [D.i2z.symm, D.l2z.symm]
  Tf2 := by simp [D.TOi2, D.l2TO.symm]
  sep1_2 := by simp [D.i12, D.l2i1.symm]
  sep2_1 := by simp [D.i12.symm]
theorem turn_zipS {P : Program} {w : World} {K : Frag} {elts : List Expr} {kk : Nat} {tpos : Pos} {b z TI TO i1 i2 : Addr} {x : Str} {t : Tok} (D : ZipApart z TI TO i1 i2 b b) :
    Turn P w K (.Tuple elts kk tpos) (ItzS K x b) [z, TI, TO, i1, i2] z (fun i h => IsZip h z TI TO .none ∧ IsPair h TI (.ref i1) (.ref i2) ∧ (∃ x y, IsPair h TO x y) ∧ h.IsStrIter i1 "str_ascii_iterator" x t i ∧ h.IsTupleIter i2 b i) where
  mem := by simp
  obj := fun i h st c hc => by
    obtain ⟨hz, hTI, ⟨x, y, hTO⟩, ⟨o1, e1, _, d1⟩, ⟨o2, e2, _, d2⟩⟩ := st
    have e' : c = z ∨ c = TI ∨ c = TO ∨ c = i1 ∨ c = i2 := by simpa using hc
    rcases e' with q | q | q | q | q
    · rw [q]; exact ⟨_, hz, fun v q => nomatch q⟩
    · rw [q]; exact ⟨_, hTI, fun v q => nomatch q⟩
    · rw [q]; exact ⟨_, hTO, fun v q => nomatch q⟩
    · rw [q]; exact ⟨o1, e1, fun v q => by rw [d1] at q; cases q⟩
    · rw [q]; exact ⟨o2, e2, fun v q => by rw [d2] at q; cases q⟩
  keep := fun i h h' st k => by
    obtain ⟨hz, hTI, ⟨x, y, hTO⟩, ⟨o1, e1, r1⟩, h2⟩ := st
    exact ⟨k z (by simp) _ hz, k TI (by simp) _ hTI, ⟨x, y, k TO (by simp) _ hTO⟩, ⟨o1, k i1 (by simp) o1 e1, r1⟩, h2.at fun o q => k i2 (by simp) o q⟩
  item := by
    intro X hP hw hK hc i pins s σ H E I hf st hg
    subst hP hw hK
    obtain ⟨hz, hTI, ⟨x0, y0, hTO⟩, h1, h2⟩ := st
    obtain ⟨ys, c, y, hqy, hx, hy⟩ := hg
    obtain ⟨its2, rv2, p2, _⟩ := I.tuple hqy
    obtain ⟨u2, hu2, ru2⟩ := rv2.get hy
    have hzl : z < s.heap.objs.size := Heap.lt_size hz
    have hi1 : i < x.cps.size := (Array.getElem?_eq_some_iff.mp hx).1
    have hi2 : i < its2.toArray.size := by
      have := (List.getElem?_eq_some_iff.mp hu2).1
      simpa using this
    refine wpAny_pyNext_zipD2_item (sep_of D) (Draws.strAscii (show X.A.in1.handled = none from I.ok.hd hc) i1 x t) (Draws.tuple (show X.A.in1.handled = none from I.ok.hd hc) i2 b D.l2i2 its2.toArray) hz hTI hTO h1 ⟨h2, p2⟩ hi1 hi2 fun x1 x2 h' tk y1 y2 z' TO' h1' h2' hT hsz hk => ?_
    obtain ⟨c', tk', hc', rfl⟩ := y1
    rw [hx] at hc'
    cases hc'
    have e2 : x2 = u2 := by
      have a1 : its2.toArray[i]? = some x2 := y2
      have a2 : its2.toArray[i]? = some u2 := by simpa using hu2
      rw [a1] at a2
      cases a2
      rfl
    subst e2
    refine ⟨_, rfl, wpAny_letOwnedTupleGo_zip (s := { s with heap := h', toks := tk }) z' fun h'' z'' sb => ?_⟩
    have hT2 : h''.get? s.heap.objs.size = some { cls := .type "tuple", data := .seq #[.str ⟨#[c]⟩ tk', x2] } := (sb.2 _ (Nat.ne_of_gt hzl)).trans hT
    have new : ObjOk X.prog X.w (upd H s.heap.objs.size (.tup [.str ⟨#[c]⟩, y])) h'' s.heap.objs.size (.tup [.str ⟨#[c]⟩, y]) :=
      ⟨by show 2 ≤ sizeLine; decide, [.str ⟨#[c]⟩ tk', x2], .cons ⟨tk', rfl⟩ (.cons ru2 .nil), ⟨_, hT2, rfl, _, rfl⟩⟩
    have I1 : Inv X pins σ (upd H s.heap.objs.size (.tup [.str ⟨#[c]⟩, y])) { s with heap := h'', toks := tk } :=
      I.turnedNew (t' := tk) (ch := [z, TI, TO, i1, i2]) (fun c o hb q => (sb.2 c (fun q' => hb (by simp [q']))).trans (hk c o (fun q' => hb (by simp [q'])) (fun q' => hb (by simp [q'])) (fun q' => hb (by simp [q'])) (fun q' => hb (by simp [q'])) q)) hf (Nat.le_refl _) new
    refine ⟨.ref s.heap.objs.size, _, I1, rfl, ⟨_, c, y, rfl, I.hok.fresh (Nat.le_refl _), rfl, hx, fun l hl => by rw [I.tuple_inj hl hqy]; exact hy⟩, ⟨z'', ?_, ⟨.str ⟨#[c]⟩ tk', x2, ?_⟩, ?_, ?_⟩, fun c hcm => ?_⟩
    · exact (sb.2 _ D.TIz).trans (hk _ _ D.TIz D.TITO D.TIi1 D.TIi2 hTI)
    · exact (sb.2 _ D.TOz).trans TO'
    · obtain ⟨o, eo, ro⟩ := h1'
      exact ⟨o, (sb.2 _ D.i1z).trans eo, ro⟩
    · exact h2'.1.at fun o q => (sb.2 _ D.i2z).trans q
    · have hlt : c < s.heap.objs.size := by
        have e' : c = z ∨ c = TI ∨ c = TO ∨ c = i1 ∨ c = i2 := by simpa using hcm
        rcases e' with q | q | q | q | q
        · rw [q]; exact hzl
        · rw [q]; exact Heap.lt_size hTI
        · rw [q]; exact Heap.lt_size hTO
        · rw [q]; obtain ⟨_, e1, _⟩ := h1; exact Heap.lt_size e1
        · rw [q]; obtain ⟨_, e1, _⟩ := h2; exact Heap.lt_size e1
      rw [upd_ne (Nat.ne_of_lt hlt)]
      exact (hf c hcm).1
  done := by
    intro X hP hw hK hc i pins s σ H E I hf st hg
    subst hP hw hK
    obtain ⟨hz, hTI, ⟨x0, y0, hTO⟩, h1, h2⟩ := st
    obtain ⟨ys, hqy, l1, l2, hend⟩ := hg
    obtain ⟨its2, rv2, p2, _⟩ := I.tuple hqy
    have l3 : its2.toArray.size = ys.length := by
      have := rv2.length
      simp
      omega
    exact wpAny_pyNext_zipD2_end (sep_of D) (Draws.strAscii (show X.A.in1.handled = none from I.ok.hd hc) i1 x t) (Draws.tuple (show X.A.in1.handled = none from I.ok.hd hc) i2 b D.l2i2 its2.toArray) hz hTI hTO h1 ⟨h2, p2⟩ l1 (by rw [l3]; exact l2) (by rw [l3]; exact hend) fun h' tk hk => ⟨rfl, I.turnedL (t' := tk) (ch := [z, TI, TO, i1, i2]) (fun c o hb q =>
      hk c o (fun q' => hb (by simp [q'])) (fun q' => hb (by simp [q'])) (fun q' => hb (by simp [q'])) (fun q' => hb (by simp [q'])) q) hf⟩
  self := fun A i s Q E st h => wpAny_pyIter_zip st.1 h
abbrev zipS1 (h : Heap) (x : Str) (t : Tok) : Heap := h.push { cls := .type "str_ascii_iterator", data := .fields #[.str x t, .int 0 0] }
abbrev zipS2 (h : Heap) (x : Str) (t : Tok) (l2 : Addr) : Heap := (zipS1 h x t).push { cls := .type "tuple_iterator", data := .fields #[.ref l2, .int 0 0] }
abbrev zipS3 (h : Heap) (x : Str) (t : Tok) (l2 : Addr) : Heap := (zipS2 h x t l2).push { cls := .type "tuple", data := .seq #[.ref h.objs.size, .ref (zipS1 h x t).objs.size] }
abbrev zipS4 (h : Heap) (x : Str) (t : Tok) (l2 : Addr) : Heap := (zipS3 h x t l2).push { cls := .type "tuple", data := .seq #[.none, .none] }
abbrev zipS5 (h : Heap) (x : Str) (t : Tok) (l2 : Addr) : Heap := (zipS4 h x t l2).push { cls := .type "zip", data := .fields #[.none, .bool false, .bool false, .ref (zipS2 h x t l2).objs.size, .ref (zipS3 h x t l2).objs.size] }
theorem meets_zipS_new (x : Str) (t : Tok) (l2 : Addr) (ha : x.cps.all (· < 128) = true) (ys : Array Value) :
    Meets (Builtin.«zip.__new__» ⟨[.type "zip", .str x t, .ref l2], []⟩) (fun _ R s => s.heap.IsTuple l2 ys ∧
      R (.ok (.ret (.ref (zipS4 s.heap x t l2).objs.size))) { s with heap := zipS5 s.heap x t l2 }) :=
  .of_wp fun prog w A R s h => by
    obtain ⟨hp, g, d, tk, os⟩ := s; obtain ⟨hl2, h⟩ := h
    have hsub := sub_zip
    have hL2 : Heap.IsTuple (Shared.heap ⟨hp.push { cls := .type "str_ascii_iterator", data := .fields #[.str x t, .int 0 0] }, g, d, tk, os⟩) l2 ys := Heap.IsTuple.push hl2 _
    wp_walk using wpAny_pyIter_ascii ha, wpAny_pyIter_tuple hL2
    exact ⟨_, rfl, h⟩
section
variable {prog : Program} {w : World} {A : Around} {E : Value → Shared → Prop} {s : Shared}
theorem call_zipS {x : Str} {t : Tok} {l2 : Addr} {ys : Array Value} {Q : Value → Shared → Prop} (ha : x.cps.all (· < 128) = true) (hl2 : s.heap.IsTuple l2 ys)
    (h : ∀ h', IsZip h' (s.heap.objs.size + 4) (s.heap.objs.size + 2) (s.heap.objs.size + 3) .none → IsPair h' (s.heap.objs.size + 2) (.ref s.heap.objs.size) (.ref (s.heap.objs.size + 1)) →
      IsPair h' (s.heap.objs.size + 3) .none .none → h'.IsStrIter s.heap.objs.size "str_ascii_iterator" x t 0 → h'.IsTupleIter (s.heap.objs.size + 1) l2 0 → h'.objs.size = s.heap.objs.size + 5 →
      (∀ c o, s.heap.get? c = some o → h'.get? c = some o) → Q (.ref (s.heap.objs.size + 4)) { s with heap := h' }) :
    wpAny (model prog w) A (call (.type "zip") [.str x t, .ref l2]) Q E s := by
  refine callType_new F.called_zip (by decide) (F.typeCall_zip_2 _ _) (F.newCall_zip_2 _ _) (fun obj => F.args_object_init_3 obj _ _) F.entry_zip_new
    (meets_zipS_new x t l2 ha ys) ⟨hl2, ?_⟩
  have z1 : (zipS1 s.heap x t).objs.size = s.heap.objs.size + 1 := Heap.size_push ..
  have z2 : (zipS2 s.heap x t l2).objs.size = s.heap.objs.size + 2 := by rw [Heap.size_push, z1]
  have z3 : (zipS3 s.heap x t l2).objs.size = s.heap.objs.size + 3 := by rw [Heap.size_push, z2]
  have z4 : (zipS4 s.heap x t l2).objs.size = s.heap.objs.size + 4 := by rw [Heap.size_push, z3]
  have z5 : (zipS5 s.heap x t l2).objs.size = s.heap.objs.size + 5 := by rw [Heap.size_push, z4]
  have g5 : (zipS5 s.heap x t l2).get? (zipS4 s.heap x t l2).objs.size = some _ := Heap.get?_push_size _ rfl
  have g4 : (zipS5 s.heap x t l2).get? (zipS3 s.heap x t l2).objs.size = some _ := Heap.get?_push_of_some _ (Heap.get?_push_size _ rfl)
  have g3 : (zipS5 s.heap x t l2).get? (zipS2 s.heap x t l2).objs.size = some _ := Heap.get?_push_of_some _ (Heap.get?_push_of_some _ (Heap.get?_push_size _ rfl))
  have g2 : (zipS5 s.heap x t l2).get? (zipS1 s.heap x t).objs.size = some _ := Heap.get?_push_of_some _ (Heap.get?_push_of_some _ (Heap.get?_push_of_some _ (Heap.get?_push_size _ rfl)))
  have g1 : (zipS5 s.heap x t l2).get? s.heap.objs.size = some _ := Heap.get?_push_of_some _ (Heap.get?_push_of_some _ (Heap.get?_push_of_some _ (Heap.get?_push_of_some _ (Heap.get?_push_size _ rfl))))
  show _ ∧ _
  rw [z2, z3, z4] at g5
  rw [z1, z2] at g3
  rw [z3] at g4
  rw [z1] at g2
  rw [z4]
  exact ⟨⟨_, g5, rfl⟩, h _ g5 g3 g4 ⟨_, g1, rfl, rfl⟩ ⟨_, g2, rfl, rfl⟩ z5 fun c o x =>
    Heap.get?_push_of_some _ (Heap.get?_push_of_some _ (Heap.get?_push_of_some _ (Heap.get?_push_of_some _ (Heap.get?_push_of_some _ x))))⟩
end
/-- zip(text, tuple) -/
def iZipS (K : Frag) (ta : TA) : TI := fun σ H R => ta σ H fun vs H1 => ∃ (x : Str) (b : Addr) (ys : List V), vs = [.str x, .ref b] ∧ x.cps.all (· < 128) = true ∧ SqT K H1 b ys ∧ R (ItzS K x b) H1
theorem pi_zipS {X : Cx} {e e2 : Expr} {ta : TA} {p pos tpos : Pos} {elts : List Expr} {kk : Nat} (hg : Gl X "zip") (hm : X.mg "zip" = none) (ha : PA X [e, e2] ta)
    (hs : starEach [e, e2] X.env = (false, eval e X.env) :: starEach [e2] X.env := by rfl) (hpl : (backTo pos (starEach [e2] X.env)).any (·.1) = false := by rfl) :
    PI X (.Tuple elts kk tpos) (.Call (.Name "zip" p) [e, e2] [] pos) (iZipS X.K ta) := by
  refine ⟨fun pins s σ H R I h => ?_⟩
  refine Call_ (ld_blt I hg hm PyProof.Rows.boot_zip (PyProof.Rows.callWith_type1 (thn (ha.run pos pins s σ H _ I h) fun us s1 ⟨vs, H1, I1, r1, q1⟩ => ?_) hs hpl))
  obtain ⟨x, b, ys, ex, hx, hqy, q⟩ := q1
  subst ex
  cases r1 with
  | cons r rr =>
    cases rr with
    | cons r' rr =>
      cases rr
      obtain ⟨t, rfl⟩ := r
      cases r'
      have fresh5 : ∀ c, c ∈ [s1.heap.objs.size + 4, s1.heap.objs.size + 2, s1.heap.objs.size + 3, s1.heap.objs.size, s1.heap.objs.size + 1] → FpOk X pins H1 c := fun c hcm => by
        have e' : c = s1.heap.objs.size + 4 ∨ c = s1.heap.objs.size + 2 ∨ c = s1.heap.objs.size + 3 ∨ c = s1.heap.objs.size ∨ c = s1.heap.objs.size + 1 := by simpa using hcm
        have hle : s1.heap.objs.size ≤ c := by
          rcases e' with z | z | z | z | z
          · rw [z]; exact Nat.le_add_right _ _
          · rw [z]; exact Nat.le_add_right _ _
          · rw [z]; exact Nat.le_add_right _ _
          · rw [z]; exact Nat.le_refl _
          · rw [z]; exact Nat.le_add_right _ _
        exact I1.fpOk hle (I1.hok.fresh hle)
      obtain ⟨its2, rv2, p2, _⟩ := I1.tuple hqy
      obtain ⟨o2, ho2, _⟩ := id p2
      refine call_zipS hx (show s1.heap.IsTuple b its2.toArray from p2) fun h' hz hTI hTO h1 h2 hsz hk => wpAny_pyIter_zip hz ?_
      have I2 : Inv X pins σ H1 { s1 with heap := h' } := I1.kept (t' := s1.toks) hk
      exact ⟨s1.heap.objs.size + 4, [s1.heap.objs.size + 4, s1.heap.objs.size + 2, s1.heap.objs.size + 3, s1.heap.objs.size, s1.heap.objs.size + 1], _, _, H1, rfl, I2, turn_zipS (PySem.W.ktu_apart s1.heap.objs.size b b (Heap.lt_size ho2) (Heap.lt_size ho2)), ⟨hz, hTI, ⟨_, _, hTO⟩, h1, h2⟩, fresh5, q⟩
end Lh
namespace Vc
open PySem PySem.Spec PyProof.Rows L2 PySem.W Lh
section
variable {X : Cx} {S : Stt} {e e2 : Expr} {te t2 : TE} {fe ff : AE} {pos : Pos} {K : Frag} {H : Hp} {es : List PyData} {c_te c_t2 : Nat}
theorem walks_zipS {A₀ : Addr → Prop} {z : Str} {b : Addr} (h' : Dq A₀ H (.ref b) (.tuple es)) : Walks A₀ H (ItzS K z b) ((zipD (signsD z) es).map isD) := fun A' H' kk hA => by
  obtain ⟨_, ys, e, g1, g2, g3⟩ := Dq.tuple h'
  cases e
  have e' := (To.rd kk g1 g2).1
  have g4 := g3.to kk
  have lz : (signsD z).length = z.cps.size := by
    unfold signsD
    rw [List.length_map, Array.length_toList]
  refine ⟨fun i g hg => ?_, ys, .inl e', ?_⟩
  · rw [List.getElem?_map] at hg
    cases ez : (zipD (signsD z) es)[i]? with
    | none => rw [ez] at hg; cases hg
    | some u =>
      rw [ez] at hg
      cases hg
      obtain ⟨x, y, ex, ey, rfl⟩ := zip_get ez
      obtain ⟨u, eu, hu⟩ := g4.get ey
      unfold signsD at ex
      rw [List.getElem?_map] at ex
      cases ec : z.cps.toList[i]? with
      | none => rw [ec] at ex; cases ex
      | some c =>
        rw [ec] at ex
        cases ex
        have ec' : z.cps[i]? = some c := by rw [← Array.getElem?_toList]; exact ec
        refine ⟨⟨ys, c, u, .inl e', ec', eu⟩, fun v H'' ⟨T, c2, q, ez, hT, eH, hp, hq⟩ => ?_⟩
        subst ez eH
        have a2 := hq ys (.inl e')
        rw [ec'] at hp
        rw [eu] at a2
        cases hp
        cases a2
        exact ⟨ext_new hT, Dq.newT (fun z => (hA T z).1 hT) hT (.cons (.str _) (.cons hu .nil))⟩
  · have l : ((zipD (signsD z) es).map isD).length = min z.cps.size es.length := by
      unfold zipD
      rw [List.length_map, List.length_map, List.length_zip, lz]
    rw [l, g4.length]
    omega
/-- zip of a plain text and a tuple -/
def aiZS (fe ff : AE) : AN := fun a Q => fe a fun x => ff a fun y => match x, y with
  | .str z, .tuple es => z.cps.all (· < 128) = true ∧ Q (zipD (signsD z) es)
  | _, _ => False
theorem evi_ZS (h : EvW S c_te te fe) (h' : EvW S c_t2 t2 ff) : EvI' S (c_te + c_t2) (iZipS K (tCons te (tCons t2 tNil))) (aiZS fe ff) := fun m Γ a Q ok mt hh σ H E R q =>
  h m Γ a _ ok mt hh σ H E.le _ fun v H1 s ⟨d, o, k⟩ => h' m Γ a _ ok mt k σ H1 (E.step s) _ fun v2 H2 s2 ⟨d2, o2, k2⟩ => by
    cases d with
    | str z =>
      cases d2 with
      | tuple es =>
        cases o
        obtain ⟨b', ys, rfl, g1, g2, g3⟩ := Dq.tuple o2
        exact ⟨z, b', ys, rfl, k2.1, .inl g1, q _ _ H2 (s.trans s2).le (walks_zipS o2) k2.2⟩
      | _ => exact k2.elim
    | _ => cases d2 <;> exact k2.elim
theorem i_ZS (K : Frag) {p tpos : Pos} {elts : List Expr} {kk : Nat} (hm : X.mg "zip" = none) (ha : PV X S c_te e te fe) (hb : PV X S c_t2 e2 t2 ff) (hg : Gl X "zip" := by rfl) (hs : starEach [e, e2] X.env = (false, eval e X.env) :: starEach [e2] X.env := by rfl) (hs2 : starEach [e2] X.env = [(false, eval e2 X.env)] := by rfl) (hpl : (backTo pos (starEach [e2] X.env)).any (·.1) = false := by rfl) (hK : X.K = K := by rfl) :
    PVI X S (c_te + c_t2) (.Tuple elts kk tpos) (.Call (.Name "zip" p) [e, e2] [] pos) (iZipS K (tCons te (tCons t2 tNil))) (aiZS fe ff) := ⟨hK ▸ pi_zipS hg hm (pa_cons ha.pe (pa_cons hb.pe pa_nil hs2) hs) hs hpl, evi_ZS ha.ev hb.ev⟩
end
end Vc

set_option Elab.async false
set_option linter.all false
set_option maxRecDepth 100000
set_option maxHeartbeats 4000000
/-! A def that calls itself: so deep. -/
namespace Vc
open PySem PySem.Spec PyProof.Rows L2 PySem.W Lh
def wNone : List PyData → (PyData → Prop) → Prop := fun _ _ => False
def wRec (s : (List PyData → (PyData → Prop) → Prop) → List PyData → (PyData → Prop) → Prop) : Nat → List PyData → (PyData → Prop) → Prop
  | 0 => wNone
  | n + 1 => s (wRec s n)
theorem fn_noneS {P : Program} {w : World} {K : Frag} {mg : Str → Option Value} {base : Heap} {k c : Nat} {f : Addr} {fd : FuncData} {ps : List Str} {Φ : Stt → Prop} {κ : Bool} : FnOk P w K mg base CX0 k f fd ps (spWS Φ c κ wNone) :=
  ⟨fun vs H Q E h => by
    obtain ⟨A, S, us, ds, P, _, _, _, _, _, _, n, _, _, hw, _⟩ := h
    exact hw.elim, fun A outer s H args us vs Q E _ _ _ _ h => by
    obtain ⟨A, S, us, ds, P, _, _, _, _, _, _, n, _, _, hw, _⟩ := h
    exact hw.elim⟩
theorem fn_recS {P : Program} {w : World} {K : Frag} {mg : Str → Option Value} {base : Heap} {l c : Nat} {f : Addr} {fd : FuncData} {ps : List Str} {Φ : Stt → Prop} {κ : Bool} {s : (List PyData → (PyData → Prop) → Prop) → List PyData → (PyData → Prop) → Prop}
    (h : ∀ (k cc : Nat) (Wr : List PyData → (PyData → Prop) → Prop), l ≤ k → FnOk P w K mg base CX0 k f fd ps (spWS Φ cc κ Wr) → FnOk P w K mg base CX0 (k + 1) f fd ps (spWS Φ (c + cc) κ (s Wr))) :
    ∀ n : Nat, FnOk P w K mg base CX0 (l + n) f fd ps (spWS Φ (n * c) κ (wRec s n))
  | 0 => fn_noneS
  | n + 1 => by
    have := h (l + n) (n * c) _ (Nat.le_add_right _ _) (fn_recS h n)
    rw [show (n + 1) * c = c + n * c by rw [Nat.succ_mul, Nat.add_comm]]
    exact this
end Vc

set_option Elab.async false
set_option linter.all false
set_option maxRecDepth 100000
set_option maxHeartbeats 4000000
/-! A tuple beside the empty one. -/
namespace Vc
open PySem PySem.Spec PyProof.Rows L2 PySem.W Lh
def rEqE (K : Frag) : R2 := fun x y H Q => ∃ a b xs, x = .ref a ∧ y = .ref b ∧ SqT K H a xs ∧ SqT K H b [] ∧ Q (.bl (decide (xs.length = 0))) H
theorem op_eqE {X : Cx} (hu : X.A.units + 64 < cLine) : OpR X (compareOp .Eq) (rEqE X.K) := by
  intro pins s σ H x y v u Q I rx ry h
  obtain ⟨a, b, xs, rfl, rfl, ha, hb, q⟩ := h
  cases rx
  cases ry
  obtain ⟨its, rv, p, _⟩ := I.tuple ha
  obtain ⟨its2, rv2, p2, _⟩ := I.tuple hb
  cases rv2
  refine SeqAt.eq_tupleAt (e := fun _ => true) (show s.heap.IsTuple a its.toArray from p) (show s.heap.IsTuple b ([] : List Value).toArray from p2) (by omega) (fun j h1 h2 => absurd h2 (by simp)) ⟨.bl _, H, I, ?_, q⟩
  have hl := rv.length
  show Value.bool _ = Value.bool _
  congr 1
  cases its with
  | nil =>
    have : xs.length = 0 := hl
    simp [this]
  | cons v its =>
    have : xs.length ≠ 0 := by rw [hl]; simp
    simp [this]
theorem k_eqE {X : Cx} (K : Frag) (hu : X.A.units + 64 < cLine) (hK : X.K = K := by rfl) : OpR X (compareOp .Eq) (rEqE K) := hK ▸ op_eqE hu
def gEqE (n : Bool) : PyData → PyData → (PyData → Prop) → Prop := fun x y Q => match x, y with
  | .tuple xs, .tuple [] => Q (.bool (n.xor (decide (xs.length = 0))))
  | _, _ => False
theorem opd_eqE {S : Stt} {K : Frag} : OpD S (rEqE K) (gEqE false) := fun {m Γ σ H x y dx dy Q R} ok E ox oy k q => by
  unfold gEqE at k
  split at k
  · obtain ⟨a, xs, rfl, h1, h2, h3⟩ := Dq.tuple ox
    obtain ⟨b, ys, rfl, g1, g2, g3⟩ := Dq.tuple oy
    cases g3
    exact ⟨a, b, xs, rfl, rfl, .inl h1, .inl g1, q _ H _ Stp.refl (by rw [Bool.false_xor, h3.length]; exact .bl _) k⟩
  · exact k.elim
end Vc

set_option Elab.async false
set_option linter.all false
set_option maxRecDepth 100000
set_option maxHeartbeats 4000000
/-! Beside a text: != of anything at all; a truth as a number, and as a text. -/
namespace PySem.SeqAt
open AutoSeq1 (wpAny_loadPart')
open MeetsSeq MeetsSeq2 MeetsSeq3
theorem dict_ne_declines_str (l : Addr) (es : Array DictEntry) (ep : Nat) (dd : Option Addr) (sl : Array (Option Value)) (b : Str) (u : Tok) :
    Meets (Builtin.«dict.__ne__» ⟨[.ref l, .str b u], []⟩) (fun _ R s => s.heap.get? l = some { cls := .type "dict", dict := dd, data := .dict es ep, slots := sl } ∧ R (.ok (.ret .notImplemented)) s) :=
  .of_wp fun prog w A R s h => by obtain ⟨hp, g, d, tk, os⟩ := s; obtain ⟨hl, h⟩ := h; have f1 := F.sub_str_dict; wp_walk using wpAny_loadPart' hl; exact ⟨_, rfl, h⟩
theorem str_ne_declines_dict (b : Str) (u : Tok) (l : Addr) (c : Value) (es : Array DictEntry) (ep : Nat) (dd : Option Addr) (sl : Array (Option Value)) :
    Meets (Builtin.«str.__ne__» ⟨[.str b u, .ref l], []⟩) (fun _ R s => s.heap.get? l = some { cls := c, dict := dd, data := .dict es ep, slots := sl } ∧ R (.ok (.ret .notImplemented)) s) :=
  .of_wp fun prog w A R s h => by obtain ⟨hp, g, d, tk, os⟩ := s; obtain ⟨hl, h⟩ := h; wp_walk using wpAny_loadPart' hl, wpAny_load hl; exact ⟨_, rfl, h⟩
theorem RcNeAt.dict_str {A : Around} {s : Shared} {l : Addr} {es : Array DictEntry} {ep : Nat} {dd : Option Addr} {sl : Array (Option Value)} (b : Str) (u : Tok) (ho : s.heap.get? l = some { cls := .type "dict", dict := dd, data := .dict es ep, slots := sl }) (hu : A.units < cLine) : RcNeAt A s (.ref l) (.str b u) true := fun prog w E Q h => by
  exact rc_ne_decline_or (k := false) ⟨_, ho, rfl⟩ (typeIs_str s b u) (by decide) F.sub_str_dict F.slot_dict_ne F.slot_str_ne_refl
    (fun _ hq => call_meets F.slot_dict_ne ⟨_, ho, rfl⟩ F.entry_dict_ne (F.args_dict_ne_2 _ _) (dict_ne_declines_str l es ep dd sl b u) ⟨ho, hq⟩)
    (fun _ hq => call_meets F.slot_str_ne_refl (typeIs_str s b u) F.entry_str_ne (F.args_str_ne_2 _ _) (str_ne_declines_dict b u l (.type "dict") es ep dd sl) ⟨ho, hq⟩)
    (fun _ hq => wpAny_of_eq (rfl : isSame (.ref l) (.str b u) = pure false) hq) (.inr hu) h
end PySem.SeqAt
namespace Vc
open PySem PySem.Spec PyProof.Rows L2 PySem.W Lh
/-- what is read of a value -/
def Knd (K : Frag) (H : Hp) : V → Prop
  | .ref a => (∃ xs, SqT K H a xs) ∨ (∃ xs, SqL K H a xs) ∨ ∃ kvs, Rd H a (.dK kvs)
  | .byt _ => False
  | .flt _ => False
  | .ty _ => False
  | _ => True
def vNeS (z : Str) : V → Bool
  | .str a => !(a == z)
  | _ => true
def dNeS (z : Str) : PyData → Bool
  | .str a => !(a == z)
  | _ => true
def rNeS (K : Frag) : R2 := fun x y H Q => ∃ z, y = .str z ∧ Knd K H x ∧ Q (.bl (vNeS z x)) H
theorem op_neS {X : Cx} (hu : X.A.units + 64 < cLine) : OpR X (compareOp .NotEq) (rNeS X.K) := by
  intro pins s σ H x y v u Q I rx ry h
  obtain ⟨z, rfl, hk, q⟩ := h
  obtain ⟨t, rfl⟩ := ry
  have hu' : X.A.units < cLine := by omega
  cases x with
  | non =>
    cases rx
    exact SeqAt.RcNeAt.none_str z t _ _ _ _ ⟨.bl _, H, I, rfl, q⟩
  | bl b =>
    cases rx
    exact SeqAt.RcNeAt.bool_str b z t _ _ _ _ ⟨.bl _, H, I, rfl, q⟩
  | int i =>
    obtain ⟨t', rfl⟩ := rx
    exact SeqAt.RcNeAt.int_str i t' z t _ _ _ _ ⟨.bl _, H, I, rfl, q⟩
  | str a =>
    obtain ⟨t', rfl⟩ := rx
    exact SeqAt.RcNeAt.str_str a t' z t _ _ _ _ ⟨.bl _, H, I, rfl, q⟩
  | byt b => exact hk.elim
  | flt b => exact hk.elim
  | ty n => exact hk.elim
  | ref a =>
    cases rx
    rcases hk with ⟨xs, h⟩ | ⟨xs, h⟩ | ⟨kvs, h⟩
    · obtain ⟨its, rv, p, _⟩ := I.tuple h
      exact SeqAt.RcNeAt.tuple_str z t (show s.heap.IsTuple a its.toArray from p) hu' _ _ _ _ ⟨.bl _, H, I, rfl, q⟩
    · obtain ⟨its, rv, ⟨n, o, p, h1, _, h3⟩, _⟩ := I.list h
      exact SeqAt.RcNeAt.list_str z t ⟨n, p, h1, o, h3⟩ hu' _ _ _ _ ⟨.bl _, H, I, rfl, q⟩
    · obtain ⟨_, _, vs, _, o, es, ep, e, ⟨h1, h2, h3⟩, h4, _⟩ := (show ObjOk X.prog X.w H s.heap a (.dK kvs) from h.ok I.hok)
      obtain ⟨cls, dd, data, sl⟩ := o
      cases h1
      cases h4
      exact SeqAt.RcNeAt.dict_str z t e hu' _ _ _ _ ⟨.bl _, H, I, rfl, q⟩
theorem k_neS {X : Cx} (K : Frag) (hu : X.A.units + 64 < cLine) (hK : X.K = K := by rfl) : OpR X (compareOp .NotEq) (rNeS K) := hK ▸ op_neS hu
/-- != of anything and a text -/
def gNeS : PyData → PyData → (PyData → Prop) → Prop := fun x y Q => ∃ z, y = .str z ∧ noO x = true ∧ Q (.bool (dNeS z x))
theorem Dq.knd {K : Frag} {A : Addr → Prop} {H : Hp} {v : V} {d : PyData} (h : Dq A H v d) (hn : noO d = true) : Knd K H v := by
  cases h with
  | non => trivial
  | bl => trivial
  | int => trivial
  | str => trivial
  | lst e => exact .inr (.inl ⟨_, .inl (.inl e)⟩)
  | tup e => exact .inl ⟨_, .inl e.rd⟩
  | dct e => exact .inr (.inr ⟨_, e⟩)
  | obj _ _ _ _ => cases hn
theorem opd_neS {S : Stt} {K : Frag} : OpD S (rNeS K) gNeS := fun {m Γ σ H x y dx dy Q R} ok E ox oy k q => by
  obtain ⟨z, rfl, hn, k⟩ := k
  cases oy
  refine ⟨z, rfl, Dq.knd ox hn, ?_⟩
  have e : vNeS z x = dNeS z dx := by cases ox <;> rfl
  rw [e]
  exact q _ H _ Stp.refl (.bl _) k
/-- a truth is a number -/
def b2 : V → Option Int
  | .int i => some i
  | .bl b => some (if b then 1 else 0)
  | _ => none
def rAddB : R2 := fun x y H Q => ∃ i j, b2 x = some i ∧ y = .int j ∧ Q (.int (i + j)) H
theorem op_addB {X : Cx} : OpR X (binaryOp .Add) rAddB := by
  intro pins s σ H x y v u Q I rx ry h
  obtain ⟨i, j, e, rfl, q⟩ := h
  obtain ⟨t', rfl⟩ := ry
  cases x with
  | int k =>
    cases e
    obtain ⟨t, rfl⟩ := rx
    exact add_int ⟨.int _, H, I.tok _, ⟨_, rfl⟩, q⟩
  | bl b =>
    cases e
    cases rx
    exact PySem.IntBool.add_bool_int ⟨.int _, H, I.tok _, ⟨_, rfl⟩, q⟩
  | _ => cases e
def d2 : PyData → Option Int
  | .int i => some i
  | .bool b => some (if b then 1 else 0)
  | _ => none
def gAddB : PyData → PyData → (PyData → Prop) → Prop := fun x y Q => ∃ i j, d2 x = some i ∧ y = .int j ∧ Q (.int (i + j))
theorem opd_addB {S : Stt} : OpD S rAddB gAddB := fun {m Γ σ H x y dx dy Q R} ok E ox oy k q => by
  obtain ⟨i, j, e, rfl, k⟩ := k
  cases oy
  cases ox with
  | int => cases e; exact ⟨_, _, rfl, rfl, q _ H _ Stp.refl (.int _) k⟩
  | bl => cases e; exact ⟨_, _, rfl, rfl, q _ H _ Stp.refl (.int _) k⟩
  | _ => cases e
/-- str of a number or a truth -/
def strB : PyData → Option Str
  | .int i => if i.natAbs.log2 < 1920 then some (toString i) else none
  | .bool b => some (if b then "True" else "False")
  | _ => none
def vStrB : V → Option Str
  | .int i => if i.natAbs.log2 < 1920 then some (toString i) else none
  | .bl b => some (if b then "True" else "False")
  | _ => none
abbrev rStrB : List V → Hp → VK → Prop := fun xs H Q => ∃ x z, xs = [x] ∧ vStrB x = some z ∧ Q (.str z) H
theorem call_strB {X : Cx} : CallR X (.type "str") rStrB := by
  intro pins s σ H xs us Q I r h
  obtain ⟨x, z, rfl, e, q⟩ := h
  cases x with
  | int i =>
    obtain ⟨u, rfl, t, rfl⟩ := vals1 r
    by_cases hz : i.natAbs.log2 < 1920
    · have e2 := (if_pos hz).symm.trans (show (if i.natAbs.log2 < 1920 then some (Str.ofString (toString i)) else none) = some z from e)
      cases e2
      exact PySem.P.str_of_int hz ⟨.str _, H, I.tok _, ⟨_, rfl⟩, q⟩
    · have e2 := (if_neg hz).symm.trans (show (if i.natAbs.log2 < 1920 then some (Str.ofString (toString i)) else none) = some z from e)
      cases e2
  | bl b =>
    obtain ⟨u, rfl, rfl⟩ := vals1 r
    have e2 : z = (if b then Str.ofString "True" else Str.ofString "False") := by cases e; rfl
    subst e2
    exact PySem.P.str_of_bool ⟨.str _, H, I.tok _, ⟨_, rfl⟩, q⟩
  | _ => cases e
def gStrB : List PyData → (PyData → Prop) → Prop := fun ds Q => match ds with
  | [d] => ∃ z, strB d = some z ∧ Q (.str z)
  | _ => False
theorem ar_strB {S : Stt} : ArD S rStrB gStrB := fun {m Γ σ H vs ds Q R} ok E o k q => by
  unfold gStrB at k
  split at k
  · obtain ⟨z, e, k⟩ := k
    obtain ⟨v, rfl, a⟩ := dqa1 o
    cases a with
    | int => exact ⟨_, z, rfl, e, q _ H _ Stp.refl (.str _) k⟩
    | bl => exact ⟨_, z, rfl, e, q _ H _ Stp.refl (.str _) k⟩
    | _ => cases e
  · exact k.elim
end Vc

set_option Elab.async false
set_option linter.all false
set_option maxRecDepth 100000
set_option maxHeartbeats 4000000
/-! repr of lists and tuples, where nothing is under way. -/
namespace Vc
open PySem PySem.Spec PyProof.Rows L2 PySem.W Lh
abbrev rRepr (K : Frag) : List V → Hp → VK → Prop := fun xs H Q => ∃ (a : Addr) (d : PyData), xs = [.ref a] ∧ Dp K H (.ref a) d ∧ d.showable = true ∧ d.hasDict = false ∧ d.depth ≤ 60 ∧ d.shown.length ≤ sizeLine ∧ Q (.str d.shown) H
theorem call_repr {X : Cx} (hg : X.A.guards = some []) (hu : X.A.units + 64 < cLine) : CallR X (.builtin "repr") (rRepr X.K) := by
  intro pins s σ H xs us Q I r h
  obtain ⟨a, d, rfl, hd, h1, h2, h3, h4, q⟩ := h
  obtain ⟨u, rfl, rfl⟩ := vals1 r
  obtain ⟨as, rd⟩ := Dp.reads I d (.ref a) (.ref a) hd rfl
  exact repr_of_reads' rd h1 (PyData.noDict_hsm h2) hg (by omega) (fun _ _ e => e) (fun h' u tk k => ⟨.str _, H, I.kept k, ⟨_, rfl⟩, q⟩) h4
theorem k_repr {X : Cx} (K : Frag) (hg : X.A.guards = some []) (hu : X.A.units + 64 < cLine) (hK : X.K = K := by rfl) : CallR X (.builtin "repr") (rRepr K) := hK ▸ call_repr hg hu
def isSq : PyData → Bool
  | .list _ => true
  | .tuple _ => true
  | _ => false
/-- repr of plain data -/
def gRepr : List PyData → (PyData → Prop) → Prop := fun ds Q => ∃ d, ds = [d] ∧ isSq d = true ∧ d.plain = true ∧ d.showable = true ∧ d.hasDict = false ∧ d.depth ≤ 60 ∧ d.shown.length ≤ sizeLine ∧ Q (.str d.shown)
theorem ar_repr {S : Stt} {K : Frag} : ArD S (rRepr K) gRepr := fun {m Γ σ H vs ds Q R} ok E o k q => by
  obtain ⟨d, rfl, h0, h1, h2, h3, h4, h5, k⟩ := k
  obtain ⟨v, rfl, a⟩ := dqa1 o
  have hd := Dq.dp K h1 a
  cases a with
  | lst => exact ⟨_, _, rfl, hd, h2, h3, h4, h5, q _ H _ Stp.refl (.str _) k⟩
  | tup => exact ⟨_, _, rfl, hd, h2, h3, h4, h5, q _ H _ Stp.refl (.str _) k⟩
  | _ => cases h0
end Vc

set_option Elab.async false
set_option linter.all false
set_option maxRecDepth 100000
set_option maxHeartbeats 4000000
/-! Comprehensions with two fors, where nothing is drawn within. -/
namespace Vc
open PySem PySem.Spec PyProof.Rows L2 PySem.W Lh
def lcW2 (ag : AG) (at_ : AT) (ai1 : AN) (ag1 : AG) (at1 : AT) (ae : AE) (vs1 : List Nat) (a : Sg) : List PyData → (List PyData → Prop) → Prop
  | [], Q => Q []
  | x :: xs, Q => ag x a fun a' => at_ a' fun b => (b = true → ai1 a' fun es => es.length ≤ 1000 ∧ lcW ag1 at1 ae (wipeA a' vs1) es fun ys => lcW2 ag at_ ai1 ag1 at1 ae vs1 a xs fun zs => Q (ys ++ zs)) ∧ (b = false → lcW2 ag at_ ai1 ag1 at1 ae vs1 a xs Q)
def aLc2 (ai : AN) (ag : AG) (at_ : AT) (ai1 : AN) (ag1 : AG) (at1 : AT) (ae : AE) (vs vs1 : List Nat) : AN := fun a Q => ai a fun ds => ds.length ≤ 1000 ∧ lcW2 ag at_ ai1 ag1 at1 ae vs1 (wipeA a vs) ds Q
theorem noBox_fewer {p : Addr} {Γ Γ' : Gam} (f : Fewer Γ' Γ) (h : NoBox p Γ) : NoBox p Γ' := fun i q b e => h i q b (f i q b e)
theorem noBox_wipe {p : Addr} {Γ : Gam} (h : NoBox p Γ) : ∀ vs : List Nat, NoBox p (wipeG Γ vs)
  | [] => h
  | v :: vs => NoBox.set' (noBox_wipe h vs) fun q b e => nomatch e
section
variable {S : Stt} {wi wi1 : TI} {ai ai1 : AN} {g g1 : TG} {ag ag1 : AG} {tt tt1 : TT} {at_ at1 : AT} {te : TE} {ae : AE} {vs vs1 us us1 : List Nat} {c : Nat}
theorem evn_lc2 (hi : EvI' S c wi ai) (hg : TgW S us g ag) (hu : ∀ i ∈ us, i ∈ vs) (ht : EvB S 0 tt at_) (hi1 : EvI' S 0 wi1 ai1) (hg1 : TgW S us1 g1 ag1) (hu1 : ∀ i ∈ us1, i ∈ vs1) (ht1 : EvB S 0 tt1 at1) (he : EvW S 0 te ae) :
    EvN S c (tLc2 wi g tt wi1 g1 tt1 te vs vs1) (aLc2 ai ag at_ ai1 ag1 at1 ae vs vs1) := fun m Γ a Q ok mt hh σ H E R q =>
  hi m Γ a _ ok mt hh σ H E.le _ fun J ds H1 s1 wk ⟨hz, hw⟩ D hD => by
    have E1 : Env m 0 Γ σ H1 := E.step s1
    have nM : ¬ m.M D := E1.freeM hD
    have nA : ¬ m.A D := E1.free hD
    have hDH : H D = none := Vc.Env.back E.le s1 hD
    have nb : NoBox D (wipeG Γ vs) := (E1.wipe vs).noBox hD
    have sz : 1000 * 1000 < sizeLine := by rw [sizeLine_eq]; decide
    refine ⟨fun i n H2 => n + i = ds.length ∧ Stp m 0 H1 H2 ∧ Env (m.add D) 0 (wipeG Γ vs) (wipe σ vs) H2 ∧ ∃ acc es, H2 D = some (.lst acc) ∧ DqA (m.add D).A H2 acc es ∧ es.length ≤ i * 1000 ∧ lcW2 ag at_ ai1 ag1 at1 ae vs1 (wipeA a vs) (ds.drop i) (fun ys => Q (es ++ ys)),
      ⟨ds.length, rfl, (Stp.new hD).le, (E1.wipe vs).made hD, [], [], upd_same, .nil, Nat.zero_le _, hw⟩, fun i n H2 ⟨en, s2, E2, acc, es, eD, ha, hl, hq⟩ => ?_⟩
    have k2 : To m.A H1 (m.add D).A H2 := fun b o h n => ⟨s2.kp b o h fun z => n (E1.sub b z), fun z => z.elim n (ne_of_none h hD)⟩
    obtain ⟨w1, w2⟩ := wk (m.add D).A H2 k2 E2.trk
    rw [List.length_map] at w2
    by_cases hi' : i < ds.length
    · have ed : ds.drop i = ds[i] :: ds.drop (i + 1) := List.drop_eq_getElem_cons hi'
      rw [ed] at hq
      obtain ⟨go, turn⟩ := w1 i (isD ds[i]) (by rw [List.getElem?_map, List.getElem?_eq_getElem hi']; rfl)
      refine .inr ⟨go, fun H3 => Stp m 0 H1 H3 ∧ Env (m.add D) 0 (wipeG Γ vs) (wipe σ vs) H3 ∧ ∃ acc es, H3 D = some (.lst acc) ∧ DqA (m.add D).A H3 acc es ∧ es.length ≤ (i + 1) * 1000 ∧ lcW2 ag at_ ai1 ag1 at1 ae vs1 (wipeA a vs) (ds.drop (i + 1)) (fun ys => Q (es ++ ys)),
        fun H3 ⟨b, c, d⟩ => ⟨n - 1, by omega, by omega, b, c, d⟩, fun x H3 hy => ?_⟩
      obtain ⟨k3, gx⟩ := turn x H3 hy
      have s3 : Stp (m.add D) 0 H2 H3 := Stp.ext k3
      have E3 : Env (m.add D) 0 (wipeG Γ vs) (wipe σ vs) H3 := E2.step s3
      obtain ⟨Γ', a', t1, mt1, f1, h1⟩ := hg (m.add D) _ _ _ _ ok.add (mt.wipe vs) hq
      refine t1 _ _ H3 x E3 gx _ fun σ' E4 hwp => ⟨by rw [hwp vs hu, wipe_wipe], ?_⟩
      refine ht (m.add D) Γ' a' _ ok.add mt1 h1 σ' H3 E4.le _ fun b H4 s4 h2 => ?_
      have s24 : Stp (m.add D) 0 H2 H4 := (s3.trans s4).le
      have grow : ∀ {Hx : Hp}, Stp (m.add D) 0 H2 Hx → Stp m 0 H1 Hx := fun s => ⟨fun b o h n => s.kp b o (s2.kp b o h n) n, fun n ho hn => s.inv _ ho (s2.inv n ho hn)⟩
      cases b with
      | true =>
        refine (if_pos rfl).mpr ?_
        have E44 : Env (m.add D) 0 Γ' σ' H4 := E4.step s4
        refine hi1 (m.add D) Γ' a' _ ok.add mt1 (h2.1 rfl) σ' H4 E44 _ fun J1 es1 H5 s5 wk1 ⟨hz1, hw1⟩ => ?_
        have s25 : Stp (m.add D) 0 H2 H5 := (s24.trans s5).le
        have E5 : Env (m.add D) 0 Γ' σ' H5 := E44.step s5
        have nb1 : NoBox D (wipeG Γ' vs1) := noBox_wipe (noBox_fewer f1 nb) vs1
        refine ⟨fun j k H6 => k + j = es1.length ∧ Stp m 0 H1 H6 ∧ Env (m.add D) 0 (wipeG Γ vs) (wipe σ vs) H6 ∧ Env (m.add D) 0 (wipeG Γ' vs1) (wipe σ' vs1) H6 ∧ To (m.add D).A H5 (m.add D).A H6 ∧ ∃ acc es, H6 D = some (.lst acc) ∧ DqA (m.add D).A H6 acc es ∧ es.length ≤ i * 1000 + j ∧
            lcW ag1 at1 ae (wipeA a' vs1) (es1.drop j) (fun ys => lcW2 ag at_ ai1 ag1 at1 ae vs1 (wipeA a vs) (ds.drop (i + 1)) fun zs => Q (es ++ (ys ++ zs))),
          ⟨es1.length, rfl, grow s25, E2.step s25, E5.wipe vs1, fun b o h n => ⟨h, n⟩, acc, es, s25.kp _ _ eD nM, ha.to (s25.to E2.sub), hl, hw1⟩, fun j k H6 ⟨ek, s6, EO, EI, to6, acc6, es6, eD6, ha6, hl6, hq6⟩ => ?_⟩
        obtain ⟨v1, v2⟩ := wk1 (m.add D).A H6 to6 EI.trk
        rw [List.length_map] at v2
        by_cases hj : j < es1.length
        · have ed1 : es1.drop j = es1[j] :: es1.drop (j + 1) := List.drop_eq_getElem_cons hj
          rw [ed1] at hq6
          obtain ⟨go1, turn1⟩ := v1 j (isD es1[j]) (by rw [List.getElem?_map, List.getElem?_eq_getElem hj]; rfl)
          refine .inr ⟨go1, fun H7 => Stp m 0 H1 H7 ∧ Env (m.add D) 0 (wipeG Γ vs) (wipe σ vs) H7 ∧ Env (m.add D) 0 (wipeG Γ' vs1) (wipe σ' vs1) H7 ∧ To (m.add D).A H5 (m.add D).A H7 ∧ ∃ acc es, H7 D = some (.lst acc) ∧ DqA (m.add D).A H7 acc es ∧ es.length ≤ i * 1000 + (j + 1) ∧
              lcW ag1 at1 ae (wipeA a' vs1) (es1.drop (j + 1)) (fun ys => lcW2 ag at_ ai1 ag1 at1 ae vs1 (wipeA a vs) (ds.drop (i + 1)) fun zs => Q (es ++ (ys ++ zs))),
            fun H7 ⟨b, c, d, e⟩ => ⟨k - 1, by omega, by omega, b, c, d, e⟩, fun x1 H7 hy1 => ?_⟩
          obtain ⟨k7, gx1⟩ := turn1 x1 H7 hy1
          have s7 : Stp (m.add D) 0 H6 H7 := Stp.ext k7
          have E7 : Env (m.add D) 0 (wipeG Γ' vs1) (wipe σ' vs1) H7 := EI.step s7
          obtain ⟨Γ2, a2, t2, mt2, f2, h3⟩ := hg1 (m.add D) _ _ _ _ ok.add (mt1.wipe vs1) hq6
          refine t2 _ _ H7 x1 E7 gx1 _ fun σ2 E8 hwp1 => ⟨by rw [hwp1 vs1 hu1, wipe_wipe], ?_⟩
          refine ht1 (m.add D) Γ2 a2 _ ok.add mt2 h3 σ2 H7 E8.le _ fun b1 H8 s8 h4 => ?_
          have to_ : ∀ {Hx : Hp}, Stp (m.add D) 0 H6 Hx → To (m.add D).A H5 (m.add D).A Hx := fun s b o h n => ⟨s.kp b o (to6 b o h n).1 fun z => n (E2.sub b z), n⟩
          have grow6 : ∀ {Hx : Hp}, Stp (m.add D) 0 H6 Hx → Stp m 0 H1 Hx := fun s => ⟨fun b o h n => s.kp b o (s6.kp b o h n) n, fun n ho hn => s.inv _ ho (s6.inv n ho hn)⟩
          have s68 : Stp (m.add D) 0 H6 H8 := (s7.trans s8).le
          cases b1 with
          | true =>
            refine (if_pos rfl).mpr ?_
            refine he (m.add D) Γ2 a2 _ ok.add mt2 (h4.1 rfl) σ2 H8 (E8.step s8) _ fun y H9 s9 ⟨e, oe, h5⟩ => ?_
            have s69 : Stp (m.add D) 0 H6 H9 := (s68.trans s9).le
            have EO9 : Env (m.add D) 0 (wipeG Γ vs) (wipe σ vs) H9 := EO.step s69
            have EI9 : Env (m.add D) 0 (wipeG Γ' vs1) (wipe σ' vs1) H9 := EI.step s69
            have ha9 := ha6.to (s69.to EO.sub)
            have g9 := grow6 s69
            have hi1000 : i + 1 ≤ 1000 := by omega
            refine ⟨acc6, s69.kp _ _ eD6 nM, ?_, ?_, EO9.put (.inr rfl) nM (E1.free0 hD) nb, EI9.put (.inr rfl) nM (E1.free0 hD) nb1, fun b o h n => ?_, acc6 ++ [y], es6 ++ [e], upd_same, ?_, by rw [List.length_append]; show es6.length + 1 ≤ _; omega, ?_⟩
            · rw [ha6.length]
              omega
            · refine ⟨fun b o h n => ?_, fun n ho hn => ?_⟩
              · rw [upd_ne (ne_of_none h hD)]
                exact g9.kp b o h n
              · exact m.imono (g9.inv n ho hn) fun b o h hm => by
                  rw [upd_ne (fun z : b = D => nM (z ▸ hm))]
                  exact h
            · have hb := to_ s69 b o h n
              refine ⟨?_, n⟩
              rw [upd_ne (fun z => n (.inr z))]
              exact hb.1
            · have t : To (m.add D).A H9 (m.add D).A (upd H9 D (.lst (acc6 ++ [y]))) := fun b o h n => ⟨by rw [upd_ne (fun z => n (.inr z))]; exact h, n⟩
              exact (ha9.append (.cons oe .nil)).to t
            · have : (fun ys => lcW2 ag at_ ai1 ag1 at1 ae vs1 (wipeA a vs) (ds.drop (i + 1)) fun zs => Q (es6 ++ [e] ++ (ys ++ zs))) = fun ys => lcW2 ag at_ ai1 ag1 at1 ae vs1 (wipeA a vs) (ds.drop (i + 1)) fun zs => Q (es6 ++ (e :: ys ++ zs)) := by
                funext ys
                congr 1
                funext zs
                rw [List.append_assoc]
                rfl
              rw [this]
              exact h5
          | false =>
            refine (if_neg Bool.false_ne_true).mpr ?_
            exact ⟨grow6 s68, EO.step s68, EI.step s68, to_ s68, acc6, es6, s68.kp _ _ eD6 nM, ha6.to (s68.to EO.sub), by omega, h4.2 rfl⟩
        · have hj' : j = es1.length := by omega
          subst hj'
          rw [List.drop_length] at hq6
          refine .inl ⟨v2, s6, EO, acc6, es6, eD6, ha6, by omega, hq6⟩
      | false =>
        refine (if_neg Bool.false_ne_true).mpr ?_
        exact ⟨grow s24, E2.step s24, acc, es, s24.kp _ _ eD nM, ha.to (s24.to E2.sub), by omega, h2.2 rfl⟩
    · have hi'' : i = ds.length := by omega
      subst hi''
      rw [List.drop_length] at hq
      refine .inl ⟨w2, q D acc es H2 (s1.trans s2).le hDH eD ha ?_⟩
      have hq' : Q (es ++ []) := hq
      rw [List.append_nil] at hq'
      exact hq'
end
section
variable {X : Cx} {S : Stt} {κ : Bool} {tt tt1 : TT} {at_ at1 : AT} {i : Nat} {y : Str} {py : Pos} {elt tg iter tg1 iter1 : Expr} {ifs ifs1 : List Expr} {scope : Scope} {own : List (Str × Nat)} {pos spos : Pos} {wi wi1 : TI} {ai ai1 : AN} {g g1 : TG} {ag ag1 : AG} {te : TE} {ae : AE} {us us1 vs1 : List Nat}
theorem n_lc2 (hc : X.calm = true) (hN : X.N.Nodup) (hi : PVI X S c_wi tg iter wi ai) (ok : BlkOk X.N X.env.scope scope own)
    (hg : ∀ (s : Shared) (H : Hp) (C : Addr) (cl : List (Str × Addr)) (fp : List Addr), PVG (X.blk s H scope (compEnvC scope cl C X.env) fp) S us tg g ag) (ht : ∀ (s : Shared) (H : Hp) (C : Addr) (cl : List (Str × Addr)) (fp : List Addr), PVTs (X.blk s H scope (compEnvC scope cl C X.env) fp) S 0 ifs tt at_)
    (hi1 : ∀ (s : Shared) (H : Hp) (C : Addr) (cl : List (Str × Addr)) (fp : List Addr), PVI (X.blk s H scope (compEnvC scope cl C X.env) fp) S 0 tg1 iter1 wi1 ai1)
    (hg1 : ∀ (s : Shared) (H : Hp) (C : Addr) (cl : List (Str × Addr)) (fp : List Addr), PVG (X.blk s H scope (compEnvC scope cl C X.env) fp) S us1 tg1 g1 ag1) (ht1 : ∀ (s : Shared) (H : Hp) (C : Addr) (cl : List (Str × Addr)) (fp : List Addr), PVTs (X.blk s H scope (compEnvC scope cl C X.env) fp) S 0 ifs1 tt1 at1)
    (he : ∀ (s : Shared) (H : Hp) (C : Addr) (cl : List (Str × Addr)) (fp : List Addr), PV (X.blk s H scope (compEnvC scope cl C X.env) fp) S 0 elt te ae) (hv : ∀ i ∈ vs1, i ∈ own.map (·.2) := by decide) (hu : ∀ i ∈ us, i ∈ own.map (·.2) := by decide) (hu1 : ∀ i ∈ us1, i ∈ vs1 := by decide)
    (hs : ∀ x, foldedSetIterable iter X.env x = pure x := by intro _; rfl) (hs1 : ∀ env x, foldedSetIterable iter1 env x = pure x := by intro _ _; rfl) :
    PVN X S c_wi (.ListComp elt [⟨tg, iter, ifs, 0⟩, ⟨tg1, iter1, ifs1, 0⟩] scope pos) (tLc2 wi g tt wi1 g1 tt1 te (own.map (·.2)) vs1) (aLc2 ai ag at_ ai1 ag1 at1 ae (own.map (·.2)) vs1) :=
  ⟨pe_lc2 hc hN hi.pe ok hv (fun s H C cl fp => (hg s H C cl fp).pe) (fun s H C cl fp => (ht s H C cl fp).pe) (fun s H C cl fp => (hi1 s H C cl fp).pe) (fun s H C cl fp => (hg1 s H C cl fp).pe) (fun s H C cl fp => (ht1 s H C cl fp).pe) (fun s H C cl fp => (he s H C cl fp).pe) hs hs1,
   evn_lc2 hi.ev (hg X.s_0 (fun _ => none) 0 [] []).ev hu (ht X.s_0 (fun _ => none) 0 [] []).ev (hi1 X.s_0 (fun _ => none) 0 [] []).ev (hg1 X.s_0 (fun _ => none) 0 [] []).ev hu1 (ht1 X.s_0 (fun _ => none) 0 [] []).ev (he X.s_0 (fun _ => none) 0 [] []).ev⟩
theorem s_lc2S (hc : X.calm = true) (hN : X.N.Nodup) (hy : X.N[i]? = some y) (hyl : X.env.scope.names.lookup y = some .local)
    (hsw : swapsWith (.ListComp elt [⟨tg, iter, ifs, 0⟩, ⟨tg1, iter1, ifs1, 0⟩] scope pos) (some (.Name y py)) spos.line X.env = pure true) (hi : PVI X S c_wi tg iter wi ai) (ok : BlkOk X.N X.env.scope scope own)
    (hg : ∀ (s : Shared) (H : Hp) (C : Addr) (cl : List (Str × Addr)) (fp : List Addr), PVG (X.blk s H scope (compEnvC scope cl C X.env) fp) S us tg g ag) (ht : ∀ (s : Shared) (H : Hp) (C : Addr) (cl : List (Str × Addr)) (fp : List Addr), PVTs (X.blk s H scope (compEnvC scope cl C X.env) fp) S 0 ifs tt at_)
    (hi1 : ∀ (s : Shared) (H : Hp) (C : Addr) (cl : List (Str × Addr)) (fp : List Addr), PVI (X.blk s H scope (compEnvC scope cl C X.env) fp) S 0 tg1 iter1 wi1 ai1)
    (hg1 : ∀ (s : Shared) (H : Hp) (C : Addr) (cl : List (Str × Addr)) (fp : List Addr), PVG (X.blk s H scope (compEnvC scope cl C X.env) fp) S us1 tg1 g1 ag1) (ht1 : ∀ (s : Shared) (H : Hp) (C : Addr) (cl : List (Str × Addr)) (fp : List Addr), PVTs (X.blk s H scope (compEnvC scope cl C X.env) fp) S 0 ifs1 tt1 at1)
    (he : ∀ (s : Shared) (H : Hp) (C : Addr) (cl : List (Str × Addr)) (fp : List Addr), PV (X.blk s H scope (compEnvC scope cl C X.env) fp) S 0 elt te ae) (hv : ∀ i ∈ vs1, i ∈ own.map (·.2) := by decide) (hu : ∀ i ∈ us, i ∈ own.map (·.2) := by decide) (hu1 : ∀ i ∈ us1, i ∈ vs1 := by decide)
    (hs : ∀ x, foldedSetIterable iter X.env x = pure x := by intro _; rfl) (hs1 : ∀ env x, foldedSetIterable iter1 env x = pure x := by intro _ _; rfl) :
    PVst X S κ c_wi (.Assign [.Name y py] (.ListComp elt [⟨tg, iter, ifs, 0⟩, ⟨tg1, iter1, ifs1, 0⟩] scope pos) spos) (tAsg (tLc2 wi g tt wi1 g1 tt1 te (own.map (·.2)) vs1) (gName i)) (aSet i (aNE (aLc2 ai ag at_ ai1 ag1 at1 ae (own.map (·.2)) vs1))) :=
  ⟨ps_setLc2 hc hN hy hyl hsw hi.pe ok hv (fun s H C cl fp => (hg s H C cl fp).pe) (fun s H C cl fp => (ht s H C cl fp).pe) (fun s H C cl fp => (hi1 s H C cl fp).pe) (fun s H C cl fp => (hg1 s H C cl fp).pe) (fun s H C cl fp => (ht1 s H C cl fp).pe) (fun s H C cl fp => (he s H C cl fp).pe) hs hs1,
   stw_set (evw_n (evn_lc2 hi.ev (hg X.s_0 (fun _ => none) 0 [] []).ev hu (ht X.s_0 (fun _ => none) 0 [] []).ev (hi1 X.s_0 (fun _ => none) 0 [] []).ev (hg1 X.s_0 (fun _ => none) 0 [] []).ev hu1 (ht1 X.s_0 (fun _ => none) 0 [] []).ev (he X.s_0 (fun _ => none) 0 [] []).ev))⟩
end
/-! ### one call of a built-in on a list under change -/
def aBB (g : List PyData → (PyData → Prop) → Prop) (i : Nat) : AE := fun a Q => match a[i]? with
  | some (.l xs) => g [.list xs] Q
  | _ => False
/-- what comes of g is a truth or a text -/
def ScR (g : List PyData → (PyData → Prop) → Prop) : Prop := ∀ ds Q, g ds Q → g ds fun z => ((∃ b, z = .bool b) ∨ ∃ s, z = .str s) ∧ Q z
theorem sc_repr : ScR gRepr := fun ds Q ⟨d, h0, h1, h2, h3, h4, h5, h6, k⟩ => ⟨d, h0, h1, h2, h3, h4, h5, h6, .inr ⟨_, rfl⟩, k⟩
theorem evw_arB {S : Stt} {r : List V → Hp → VK → Prop} {g : List PyData → (PyData → Prop) → Prop} {i : Nat} (hr : ArD S r g) (hb : ScR g) : EvW S 0 (tCB r (tCons (tVar i) tNil)) (aBB g i) := fun m Γ a Q ok mt hh σ H E R q => by
  unfold aBB at hh
  split at hh
  · rename_i xs e
    obtain ⟨p, e⟩ := mt.l e
    obtain ⟨w, h2, rfl, k1, k2, k3, o, k4, zs, rfl, k5⟩ := E.sl i _ e
    refine ⟨_, h2, ?_⟩
    have tt : To m.A H (m.del p).A H := fun a o e n => ⟨e, fun z => n z.1⟩
    have E2 : Env (m.del p) 0 [] [] H := ⟨E.inv, E.fr, fun a ha => ⟨E.sub a ha, fun z => k2 (z ▸ ha)⟩, fun a ha => E.trk a ha.1, fun x hx => x.2.mono tt (E.ex x hx), rfl, fun i g e => by simp at e⟩
    exact hr ok.del E2 (.cons (.lst k4 (fun z => z.2 rfl) (k5.to tt)) .nil) (hb _ _ hh) fun z H2 dz s2 oz ⟨hs, kz⟩ => by
      rcases hs with ⟨b, rfl⟩ | ⟨b, rfl⟩
      · cases oz
        exact q _ H2 ⟨s2.kp, s2.inv⟩ ⟨_, .bl b, kz⟩
      · cases oz
        exact q _ H2 ⟨s2.kp, s2.inv⟩ ⟨_, .str b, kz⟩
  · exact hh.elim
theorem c_arB {X : Cx} {S : Stt} {id : String} {r : List V → Hp → VK → Prop} {x y : Str} {p np pos : Pos} {g : List PyData → (PyData → Prop) → Prop} (i : Nat) (hc : CallR X (.builtin id) r) (hd : ArD S r g) (hb : ScR g) (hm : X.mg x = none) (hv : bootBuiltins x = some (.builtin id))
    (hN : X.N[i]? = some y := by rfl) (hvy : Vis X.env.scope y := by first | exact Or.inl rfl | exact Or.inr (Or.inl rfl) | exact Or.inr (Or.inr rfl)) (hdd : (y == ("__debug__" : Str)) = false := by decide) (hcd : (y == ("__classdict__" : Str)) = false := by decide)
    (hg : Gl X x := by rfl) (hn : x ≠ "__name__" := by decide) (hdb : (x == ("__debug__" : Str)) = false := by decide)
    (he : starEach [.Name y np] X.env = (false, eval (.Name y np) X.env) :: starEach [] X.env := by rfl) (hpl : (backTo pos (starEach [] X.env)).any (·.1) = false := by rfl) : PV X S 0 (.Call (.Name x p) [.Name y np] [] pos) (tCB r (tCons (tVar i) tNil)) (aBB g i) :=
  ⟨pe_callB hc hg hm hv (pa_cons (pe_var hN hvy hdd hcd) pa_nil he) hn hdb he hpl, evw_arB hd hb⟩
/-! ### one of two new lists -/
def aIfN (at_ : AT) (an bn : AN) : AN := fun a Q => at_ a fun b => (b = true → an a Q) ∧ (b = false → bn a Q)
theorem n_if {X : Cx} {S : Stt} {c a b : Expr} {tt : TT} {ta tb : TE} {at_ : AT} {an bn : AN} {pos : Pos} (ht : PVT X S c_tt c tt at_) (ha : PVN X S c_ta a ta an) (hb : PVN X S c_tb b tb bn) : PVN X S (c_tt + c_ta + c_tb) (.IfExp c a b pos) (tIf tt ta tb) (aIfN at_ an bn) :=
  ⟨pe_ifExp ht.pe ha.pe hb.pe, fun m Γ g Q ok mt hh σ H E R q => ht.ev m Γ g _ ok mt hh σ H E.le _ fun z H1 s ⟨h1, h2⟩ => by
    cases z with
    | true => exact (if_pos rfl).mpr (ha.ev m Γ g Q ok mt (h1 rfl) σ H1 (E.step s) R fun p xs ds H2 s2 hp h3 h4 h5 => q p xs ds H2 (s.trans s2).le (Vc.Env.back E.le s hp) h3 h4 h5)
    | false => exact (if_neg Bool.false_ne_true).mpr (hb.ev m Γ g Q ok mt (h2 rfl) σ H1 (E.step s) R fun p xs ds H2 s2 hp h3 h4 h5 => q p xs ds H2 (s.trans s2).le (Vc.Env.back E.le s hp) h3 h4 h5)⟩
/-- isinstance of a list under change -/
def aIsiB (f : PyData → Bool) (i : Nat) : AE := fun a Q => match a[i]? with
  | some (.l xs) => Q (.bool (f (.list xs)))
  | _ => False
theorem evw_isiB {S : Stt} {K : Frag} {n : String} {f : PyData → Bool} {i : Nat} (hf : IsTy n f) : EvW S 0 (tCB (rIsi K) (tCons (tVar i) (tCons (tC (.ty n)) tNil))) (aIsiB f i) := fun m Γ a Q ok mt hh σ H E R q => by
  unfold aIsiB at hh
  split at hh
  · rename_i xs e
    obtain ⟨p, e⟩ := mt.l e
    obtain ⟨w, h2, rfl, k1, k2, k3, o, k4, zs, rfl, k5⟩ := E.sl i _ e
    have tt : To m.A H (m.del p).A H := fun a o e n => ⟨e, fun z => n z.1⟩
    have od : Dq (m.del p).A H (.ref p) (.list xs) := .lst k4 (fun z => z.2 rfl) (k5.to tt)
    exact ⟨_, h2, .ref p, .ty n, _, .type n, f (.list xs), rfl, .ty n, ty_of od rfl, kit_ty (hf _), q _ H Stp.refl ⟨_, .bl _, hh⟩⟩
  · exact hh.elim
theorem c_isiB {X : Cx} {S : Stt} (K : Frag) {n : String} {f : PyData → Bool} {x y : Str} {np yp p pos : Pos} (i : Nat) (hf : IsTy n f) (hm : X.mg "isinstance" = none) (hmy : X.mg y = none) (hvy : bootBuiltins y = some (.type n))
    (hN : X.N[i]? = some x := by rfl) (hvx : Vis X.env.scope x := by first | exact Or.inl rfl | exact Or.inr (Or.inl rfl) | exact Or.inr (Or.inr rfl)) (hdd : (x == ("__debug__" : Str)) = false := by decide) (hcd : (x == ("__classdict__" : Str)) = false := by decide)
    (hg : Gl X "isinstance" := by rfl) (hgy : Gl X y := by rfl) (hny : y ≠ "__name__" := by decide) (hdy : (y == ("__debug__" : Str)) = false := by decide)
    (hs1 : starEach [.Name y yp] X.env = (false, eval (.Name y yp) X.env) :: starEach [] X.env := by rfl) (hs2 : starEach [.Name x np, .Name y yp] X.env = (false, eval (.Name x np) X.env) :: starEach [.Name y yp] X.env := by rfl)
    (hpl : (backTo pos (starEach [.Name y yp] X.env)).any (·.1) = false := by rfl) (hK : X.K = K := by rfl) :
    PV X S 0 (.Call (.Name "isinstance" p) [.Name x np, .Name y yp] [] pos) (tCB (rIsi K) (tCons (tVar i) (tCons (tC (.ty n)) tNil))) (aIsiB f i) :=
  ⟨pe_callB (k_isi K hK) hg hm (by decide +kernel) (pa_cons (pe_var hN hvx hdd hcd) (pa_cons (k_tyN n hgy hmy hvy hny hdy) pa_nil hs1) hs2) (by decide) (by decide) hs2 hpl, evw_isiB hf⟩
end Vc

set_option Elab.async false
set_option linter.all false
set_option maxRecDepth 100000
set_option maxHeartbeats 4000000
/-! sum of lists, from a list on. -/
namespace PySem
section
variable {prog : Program} {w : World} {A : Around} {R : Result → Shared → Prop} {I : Addr} {fp wr : List Addr} {G : Array GenState → Array GenState → Prop} {n : Nat} {P : Nat → Value → Prop} {St : Nat → Shared → Prop}
/-- the items of the first lists, one behind another -/
def catN (parts : Nat → Array Value) : Nat → Array Value
  | 0 => #[]
  | i + 1 => catN parts i ++ parts i
theorem sum_lists_loop (W : WalksS prog w A.in1 I fp wr G n P St) (H0 : Heap) (parts : Nat → Array Value) (hp : ∀ i v, i < n → P i v → ∃ b c, v = .ref b ∧ IsL H0 b (parts i) c) (S : Addr) (hSf : S ∉ fp) (hS0 : H0.objs.size ≤ S) (hw0 : ∀ b ∈ wr, H0.objs.size ≤ b) (hw1 : ∀ i s, St i s → ∀ b ∈ wr, b < s.heap.objs.size)
    (hsz : ∀ i, i < n → (catN parts i).size + (parts i).size ≤ sizeLine) :
    ∀ (k i : Nat) (s : Shared) (T : Addr) (c d : Nat), n - i = k → i ≤ n → St i s → (∀ b o, H0.get? b = some o → s.heap.get? b = some o) → s.heap.get? S = some { cls := .type "list", dict := none, data := .seq #[.ref T] c, slots := #[] } → IsL s.heap T (catN parts i) d → T ≠ S → T ∉ wr →
      (i ≠ 0 → H0.objs.size ≤ T) →
    (∀ s' T' d', Moved (S :: wr) G s s' → IsL s'.heap T' (catN parts n) d' → (n = 0 → i = 0 → T' = T) → (n ≠ 0 → H0.objs.size ≤ T') → R (.ok (.ret (.ref T'))) s') → codeAny (model prog w) A (.builtin "sum.loop" ⟨[.ref I, .ref S, rawInt 2, rawInt 0], []⟩) R s := by
  have hSw : S ∉ wr := fun h => hSf (W.sub _ h)
  have hsub : ∀ b ∈ wr, b ∈ S :: wr := fun b hb => List.mem_cons_of_mem _ hb
  intro k
  induction k with
  | zero =>
    intro i s T c d hk hi hst hK hS hT hTS hTw hT0 hR
    have hin : i = n := by omega
    subst hin
    refine codeAny_builtin F.entry_sum_loop ?_
    rw [Around.under_plainId F.plain_sum_loop _]
    show wpAny _ A.in1 (seqItems? (.ref S) >>= _) _ _ s
    refine wpAny_bind (wpAny_seqItems hS rfl ?_)
    show wpAny _ A.in1 (tryCatch (pyNext (.ref I)) _ >>= _) _ _ s
    refine wpAny_bind (wpAny_tryCatch (W.done s _ _ hst fun s' hm => ?_))
    exact wpAny_pure (hR s' T d (hm.mono hsub) (hm.heap T _ hTw hT) (fun _ _ => rfl) hT0)
  | succ k ih =>
    intro i s T c d hk hi hst hK hS hT hTS hTw hT0 hR
    have hlt : i < n := by omega
    refine codeAny_builtin F.entry_sum_loop ?_
    rw [Around.under_plainId F.plain_sum_loop _]
    show wpAny _ A.in1 (seqItems? (.ref S) >>= _) _ _ s
    refine wpAny_bind (wpAny_seqItems hS rfl ?_)
    show wpAny _ A.in1 (tryCatch (pyNext (.ref I)) _ >>= _) _ _ s
    refine wpAny_bind (wpAny_tryCatch (W.item i s _ _ hlt hst fun v s' hP hst' hm => ?_))
    obtain ⟨b, e, rfl, hb⟩ := hp i v hlt hP
    have hS' := hm.heap S _ hSw hS
    have hT' : IsL s'.heap T (catN parts i) d := hm.heap T _ hTw hT
    have hK' : ∀ b o, H0.get? b = some o → s'.heap.get? b = some o := fun x o h => hm.heap x o (fun hx => Nat.lt_irrefl _ (Nat.lt_of_lt_of_le (Heap.lt_size h) (hw0 x hx))) (hK x o h)
    have hb' : IsL s'.heap b (parts i) e := hK' b _ hb
    show wpAny _ A.in1 ((holding [Value.ref b] (binaryOp .Add (.ref T) (.ref b))).attempt >>= _) _ _ _
    refine wpAny_bind (wpAny_attempt (wpAny_holding (PySem.P.add_list hT' hb' ?_ (hsz i hlt))))
    generalize hT2 : s'.heap.objs.size = T2
    have hST : S < T2 := hT2 ▸ Heap.lt_size hS'
    have hsiz' : H0.objs.size ≤ T2 := Nat.le_of_lt (Nat.lt_of_le_of_lt hS0 hST)
    have kp : ∀ x o, s'.heap.get? x = some o → (s'.heap.push { cls := .type "list", data := .seq (catN parts i ++ parts i) }).get? x = some o := fun x o h => Heap.get?_push_of_some _ h
    have hS2 := kp _ _ hS'
    have hTn : IsL (s'.heap.push { cls := .type "list", data := .seq (catN parts i ++ parts i) }) T2 (catN parts (i + 1)) 0 := hT2 ▸ IsL.new _ _
    have neS : T2 ≠ S := fun z => Nat.lt_irrefl _ (z ▸ hST : T2 < T2)
    generalize s'.heap.push { cls := .type "list", data := .seq (catN parts i ++ parts i) } = h2 at kp hS2 hTn
    show wpAny _ A.in1 (updateSeq S (fun _ => #[.ref T2]) >>= _) _ _ _
    refine wpAny_bind (wpAny_updateSeq hS2 rfl ?_)
    have hS3 := Heap.get?_update_self (Obj.mapSeq fun _ => #[Value.ref T2]) hS2 rfl
    refine wpAny_bind (wpAny_letGo ?_)
    refine wpAny_bind (wpAny_updateSeq hS3 rfl ?_)
    have hS4 := Heap.get?_update_self (Obj.mapSeq fun _ => #[Value.ref T2]) hS3 rfl
    have oth : ∀ x o, x ≠ S → h2.get? x = some o → ((h2.update S (Obj.mapSeq fun _ => #[Value.ref T2])).update S (Obj.mapSeq fun _ => #[Value.ref T2])).get? x = some o := fun x o hx e =>
      (Heap.get?_update_other _ _ (fun z : S = x => hx z.symm)).trans ((Heap.get?_update_other _ _ (fun z : S = x => hx z.symm)).trans e)
    generalize (h2.update S (Obj.mapSeq fun _ => #[Value.ref T2])).update S (Obj.mapSeq fun _ => #[Value.ref T2]) = h3 at hS4 oth
    have all : ∀ x o, x ≠ S → s'.heap.get? x = some o → h3.get? x = some o := fun x o hx e => oth x o hx (kp x o e)
    refine wpAny_pure ⟨plainId_quiet F.plain_sum_loop _, ih (i + 1) _ T2 _ 0 (by omega) hlt (W.frame _ s' h3 s'.toks hst' (Nat.le_refl _) fun x hx o e => all x o (fun z => hSf (z ▸ hx)) e) (fun x o h => all x o (fun z => Nat.lt_irrefl _ (Nat.lt_of_lt_of_le (Heap.lt_size h) (z ▸ hS0))) (hK' x o h)) hS4 (oth T2 _ neS hTn) neS (fun hx => by
      have h9 := hw1 _ _ hst' _ hx
      rw [hT2] at h9
      exact Nat.lt_irrefl _ h9) (fun _ => hsiz') fun s'' T' d' hm'' hL h1 h2' => ?_⟩
    refine hR s'' T' d' (Moved.trans W.gtrans ((hm.mono hsub).then_heap (h' := h3) (tk := s'.toks) (Nat.le_refl _) fun b o hb e => all b o (fun z => hb (z ▸ List.mem_cons_self)) e) hm'') hL (fun h0 => absurd h0 (by omega)) h2'
end
section
variable {prog : Program} {w : World} {A : Around} {E : Value → Shared → Prop} {s : Shared}
theorem call_sum_lists {l t : Addr} {vs : Array Value} {e : Nat} (parts : Nat → Array Value) {Q : Value → Shared → Prop} (hh : A.handled = none) (hl : s.heap.IsList l vs) (hp : ∀ i v, i < vs.size → vs[i]? = some v → ∃ b c, v = .ref b ∧ IsL s.heap b (parts i) c) (ht : IsL s.heap t #[] e)
    (hsz : ∀ i, i < vs.size → (catN parts i).size + (parts i).size ≤ sizeLine)
    (h : ∀ h' tk T d, (∀ b o, s.heap.get? b = some o → h'.get? b = some o) → IsL h' T (catN parts vs.size) d → (vs.size = 0 → T = t) → (vs.size ≠ 0 → s.heap.objs.size ≤ T) → Q (.ref T) { s with heap := h', toks := tk }) :
    wpAny (model prog w) A (call (.builtin "sum") [.ref l, .ref t]) Q E s := by
  have ags : argsOk "sum" ⟨[.ref l, .ref t], []⟩ := by unfold argsOk; kernel_rfl
  refine call_function_tree F.kind_sum F.plain_sum F.entry_sum ags ?_
  unfold Builtin.«sum»
  simp only [List.length_cons, List.length_nil]
  rw [if_neg (by decide)]
  refine wpAny_bind (wpAny_of_eq (show Builtin.Builtins.bindParams "sum" ["start"] 0 ⟨[.ref t], []⟩ = pure [some (.ref t)] from rfl) ?_)
  refine wpAny_bind (PySem.W.iter_listW (A := A.in1) hh hl fun s₂ es W hst hfp hn hk => ?_)
  have ht2 : s₂.heap.get? t = some { cls := .type "list", dict := none, data := .seq #[] e, slots := #[] } := hk t _ ht
  have ty : s₂.TypeIs (.ref t) "list" := ⟨_, ht2, rfl⟩
  refine wpAny_bind (wpAny_pure ?_)
  simp only [List.forIn_cons, List.forIn_nil]
  refine wpAny_bind (wpAny_bind (wpAny_bind (wpAny_isInstance (T := "list") (b := false) ty F.sub_list_str ?_)))
  simp only [Bool.false_eq_true, if_false]
  refine wpAny_pure (wpAny_bind (wpAny_bind (wpAny_isInstance (T := "list") (b := false) ty F.sub_list_bytes ?_)))
  simp only [Bool.false_eq_true, if_false]
  refine wpAny_pure (wpAny_bind (wpAny_bind (wpAny_isInstance (T := "list") (b := false) ty F.sub_list_bytearray ?_)))
  simp only [Bool.false_eq_true, if_false]
  refine wpAny_pure (wpAny_pure ?_)
  refine wpAny_bind (wpAny_newObj_type ?_)
  have hSf : s₂.heap.objs.size ∉ [s.heap.objs.size, l] := fun hm => Nat.lt_irrefl _ (hfp _ hm)
  have hI : s.heap.objs.size < s₂.heap.objs.size := hfp _ List.mem_cons_self
  refine wpAny_pure ⟨plainId_quiet F.plain_sum_loop _, sum_lists_loop W s.heap parts hp s₂.heap.objs.size hSf (Nat.le_of_lt hI) (fun b hb => by rw [List.mem_singleton] at hb; rw [hb]; exact Nat.le_refl _) (fun i s' st b hb => by
      rw [List.mem_singleton] at hb
      rw [hb]
      obtain ⟨o, ho, _⟩ := st.1
      exact Heap.lt_size ho) hsz vs.size 0 _ t 0 e rfl (Nat.zero_le _)
    (W.frame 0 s₂ _ _ hst (Nat.le_refl _) fun b _ o e => Heap.get?_push_of_some _ e) (fun b o h => Heap.get?_push_of_some _ (hk b o h)) (Heap.get?_push_size _ rfl) (Heap.get?_push_of_some _ ht2) ?_ ?_ (fun z => absurd rfl z) fun s' T' d' hm hL h1 h2 => ?_⟩
  · exact fun z => Nat.lt_irrefl _ (z ▸ Heap.lt_size ht2)
  · exact fun z => by
      rw [List.mem_singleton] at z
      exact Nat.lt_irrefl _ (z ▸ Heap.lt_size ht)
  · have e' : s' = { s with heap := s'.heap, toks := s'.toks } := by
      have e1 := hm.gens
      have e2 := hm.drawn
      have e3 := hm.os
      rw [es] at e1 e2 e3
      cases s'
      cases e1
      cases e2
      cases e3
      rfl
    rw [e']
    refine h s'.heap s'.toks T' d' (fun b o hb => hm.heap b o (fun z => ?_) (Heap.get?_push_of_some _ (hk b o hb))) hL (fun h0 => h1 h0 rfl) h2
    have lt := Heap.lt_size hb
    rcases List.mem_cons.mp z with z | z
    · rw [z] at lt
      exact Nat.lt_irrefl _ (Nat.lt_trans lt hI)
    · rw [List.mem_singleton] at z
      rw [z] at lt
      exact Nat.lt_irrefl _ lt
end
end PySem

set_option Elab.async false
set_option linter.all false
set_option maxRecDepth 100000
set_option maxHeartbeats 4000000
/-! sum(lists, []) over data. -/
namespace Vc
open PySem PySem.Spec PyProof.Rows L2 PySem.W Lh
def rSumL : List V → Hp → VK → Prop := fun xs H Q => ∃ (a t : Addr) (rs : List Addr) (yss : List (List V)), xs = [.ref a, .ref t] ∧ H a = some (.lst (rs.map V.ref)) ∧ H t = some (.lst []) ∧ Paired (fun r ys => H r = some (.lst ys)) rs yss ∧ yss.flatten.length ≤ sizeLine ∧
  (rs = [] → Q (.ref t) H) ∧ (rs ≠ [] → ∀ p, H p = none → Q (.ref p) (upd H p (.lst yss.flatten)))
theorem cat_take (itss : List (List Value)) : ∀ n, n ≤ itss.length → catN (fun i => (itss.getD i []).toArray) n = (itss.take n).flatten.toArray
  | 0, _ => rfl
  | n + 1, h => by
    rw [catN, cat_take itss n (by omega), List.take_succ, List.flatten_append]
    have e : itss[n]? = some itss[n] := List.getElem?_eq_getElem (by omega)
    rw [e, List.getD_eq_getElem?_getD, e]
    simp
theorem refs_of : ∀ {rs : List Addr} {its : List Value}, Vals (rs.map V.ref) its → its = rs.map Value.ref
  | [], _, .nil => rfl
  | r :: rs, _, .cons h t => by
    rw [refs_of t, List.map_cons]
    cases h
    rfl
theorem vals_app : ∀ {a c : List V} {b d : List Value}, Vals a b → Vals c d → Vals (a ++ c) (b ++ d)
  | _, _, _, _, .nil, h => h
  | _, _, _, _, .cons x t, h => .cons x (vals_app t h)
theorem pair_at {α β : Type} {F : α → β → Prop} {xs : List α} {ys : List β} (h : Paired F xs ys) : ∀ {i : Nat} {x : α}, xs[i]? = some x → ∃ y, ys[i]? = some y ∧ F x y := by
  induction h with
  | nil => intro i x e; simp at e
  | cons h _ ih =>
    intro i x e
    cases i with
    | zero => cases e; exact ⟨_, rfl, h⟩
    | succ i => exact ih e
theorem vals_flat : ∀ {yss : List (List V)} {itss : List (List Value)}, Paired Vals yss itss → Vals yss.flatten itss.flatten
  | _, _, .nil => .nil
  | _, _, .cons h t => by
    rw [List.flatten_cons, List.flatten_cons]
    exact vals_app h (vals_flat t)
theorem call_sumL {X : Cx} (hc : X.calm = true) : CallR X (.builtin "sum") rSumL := by
  intro pins s σ H xs us Q I r h
  obtain ⟨a, t, rs, yss, rfl, ha, ht, hp, hz, q0, q1⟩ := h
  obtain ⟨u, u2, rfl, e1, e2⟩ := vals2 r
  cases e1
  cases e2
  obtain ⟨hla, its, n, rv, ga⟩ := (show ObjOk X.prog X.w H s.heap a (.lst (rs.map V.ref)) from I.hok a _ ha)
  obtain ⟨_, its0, n0, rv0, gt⟩ := (show ObjOk X.prog X.w H s.heap t (.lst []) from I.hok t _ ht)
  cases rv0
  have ei := refs_of rv
  subst ei
  obtain ⟨itss, h1, h2⟩ : ∃ itss : List (List Value), Paired (fun r its => ∃ n, IsL s.heap r its.toArray n) rs itss ∧ Paired Vals yss itss := by
    clear ha ga rv q0 q1 hz r hla
    induction hp with
    | nil => exact ⟨[], .nil, .nil⟩
    | cons h _ ih =>
      obtain ⟨itss, i1, i2⟩ := ih
      obtain ⟨_, its, n, rv, g⟩ := (show ObjOk X.prog X.w H s.heap _ (.lst _) from I.hok _ _ h)
      exact ⟨its :: itss, .cons ⟨n, g⟩ i1, .cons rv i2⟩
  have hl : itss.length = rs.length := (Paired.length h1).symm
  have hv := vals_flat h2
  have hlen : itss.flatten.length = yss.flatten.length := hv.length.symm
  have sz : ∀ i, i ≤ itss.length → (itss.take i).flatten.length ≤ sizeLine := fun i hi => by
    have e : itss.flatten = (itss.take i).flatten ++ (itss.drop i).flatten := by rw [← List.flatten_append, List.take_append_drop]
    have := congrArg List.length e
    rw [List.length_append] at this
    omega
  refine call_sum_lists (fun i => (itss.getD i []).toArray) (I.ok.hd hc) ⟨_, ga, rfl, n, rfl⟩ (fun i v hi hv => ?_) gt (fun i hi => ?_) fun h' tk T d hk hT h3 h4 => ?_
  · rw [List.getElem?_toArray, List.getElem?_map] at hv
    cases er : rs[i]? with
    | none => rw [er] at hv; cases hv
    | some b =>
      rw [er] at hv
      cases hv
      obtain ⟨y, ey, c, hy⟩ := pair_at h1 er
      refine ⟨b, c, rfl, ?_⟩
      show IsL s.heap b (itss.getD i []).toArray c
      rw [List.getD_eq_getElem?_getD, ey]
      exact hy
  · have hi' : i + 1 ≤ itss.length := by
      rw [hl]
      have : i < (rs.map Value.ref).length := hi
      rw [List.length_map] at this
      omega
    have e := cat_take itss (i + 1) hi'
    have e2 := congrArg Array.size e
    have e3 : (List.take (i + 1) itss).flatten.toArray.size ≤ sizeLine := sz _ hi'
    rw [← e2, catN, Array.size_append] at e3
    exact e3
  · have hn : (rs.map Value.ref).toArray.size = itss.length := by
      rw [List.size_toArray, List.length_map, hl]
    rw [hn, cat_take itss _ (Nat.le_refl _), List.take_length] at hT
    by_cases e : rs = []
    · have : T = t := h3 (by rw [hn, hl, e]; rfl)
      subst this
      exact ⟨.ref T, H, I.kept hk, rfl, q0 e⟩
    · have hne : (rs.map Value.ref).toArray.size ≠ 0 := by
        rw [hn, hl]
        exact fun z => e (List.length_eq_zero_iff.mp z)
      have hs := h4 hne
      exact ⟨.ref T, _, I.laid (o := .lst yss.flatten) hk hs ⟨hz, itss.flatten, d, hv, hT⟩, rfl, q1 e T (I.hok.fresh hs)⟩
theorem lists_of {A : Addr → Prop} {H : Hp} : ∀ {dss : List (List PyData)} {xs : List V}, DqA A H xs (dss.map .list) → ∃ (rs : List Addr) (yss : List (List V)), xs = rs.map V.ref ∧ Paired (fun r ys => H r = some (.lst ys)) rs yss ∧ DqA A H yss.flatten dss.flatten ∧ rs.length = dss.length
  | [], _, .nil => ⟨[], [], rfl, .nil, .nil, rfl⟩
  | ds :: dss, _, .cons h t => by
    obtain ⟨a, ys, rfl, h1, _, h3⟩ := Dq.list h
    obtain ⟨rs, yss, rfl, i1, i2, i3⟩ := lists_of t
    exact ⟨a :: rs, ys :: yss, rfl, .cons h1 i1, h3.append i2, by rw [List.length_cons, List.length_cons, i3]⟩
theorem Paired.imp' {α β : Type} {F G : α → β → Prop} (k : ∀ x y, F x y → G x y) {xs : List α} {ys : List β} (h : Paired F xs ys) : Paired G xs ys := by
  induction h with
  | nil => exact .nil
  | cons h _ ih => exact .cons (k _ _ h) ih
def aSumL (fe : AE) : AN := fun a Q => fe a fun x => ∃ dss : List (List PyData), x = .list (dss.map .list) ∧ dss.flatten.length ≤ sizeLine ∧ Q dss.flatten
theorem evn_sumL {S : Stt} {te : TE} {fe : AE} {c : Nat} (h : EvW S c te fe) : EvN S c (tCB rSumL (tCons te (tCons (tLst tNil) tNil))) (aSumL fe) := fun m Γ a Q ok mt hh σ H E R q =>
  h m Γ a _ ok mt hh σ H E.le _ fun v H1 s ⟨d, o, dss, e, hl, k⟩ => by
    subst e
    obtain ⟨a0, xs, rfl, h1, h2, h3⟩ := Dq.list o
    refine ⟨Nat.zero_le _, fun t ht => ?_⟩
    have kt : ∀ b o, H1 b = some o → upd H1 t (.lst []) b = some o := ext_new ht
    obtain ⟨rs, yss, rfl, hp, hy, hlen⟩ := lists_of h3
    have s1 : Stp m c H (upd H1 t (.lst [])) := (s.trans (Stp.new ht)).le
    refine ⟨a0, t, rs, yss, rfl, kt _ _ h1, upd_same, Paired.imp' (fun _ _ h => kt _ _ h) hp, by rw [hy.length]; exact hl, fun e => ?_, fun ne p hpn => ?_⟩
    · subst e
      have : dss = [] := List.length_eq_zero_iff.mp (by rw [← hlen]; rfl)
      subst this
      exact q t [] [] _ s1 (Vc.Env.back E.le s ht) upd_same .nil k
    · have hp1 : H1 p = none := by
        cases e : H1 p with
        | none => rfl
        | some o => rw [kt _ _ e] at hpn; cases hpn
      have tt : To m.A H1 (fun b => m.A b ∨ b = p) (upd (upd H1 t (.lst [])) p (.lst yss.flatten)) := fun b o hb nb => ⟨by
        rw [upd_ne (ne_of_none (kt _ _ hb) hpn)]
        exact kt _ _ hb, fun z => z.elim nb (ne_of_none hb hp1)⟩
      exact q p yss.flatten dss.flatten _ (s1.trans (Stp.new hpn)).le (Vc.Env.back E.le s hp1) upd_same (hy.to tt) k
theorem n_sumL {X : Cx} {S : Stt} {e : Expr} {te : TE} {fe : AE} {p lp pos : Pos} (hc : X.calm = true) (hm : X.mg "sum" = none) (h : PV X S c_te e te fe) (hg : Gl X "sum" := by rfl)
    (hs1 : starEach [.List [] lp] X.env = (false, eval (.List [] lp) X.env) :: starEach [] X.env := by rfl) (hs2 : starEach [e, .List [] lp] X.env = (false, eval e X.env) :: starEach [.List [] lp] X.env := by rfl)
    (hpl : (backTo pos (starEach [.List [] lp] X.env)).any (·.1) = false := by rfl) : PVN X S c_te (.Call (.Name "sum" p) [e, .List [] lp] [] pos) (tCB rSumL (tCons te (tCons (tLst tNil) tNil))) (aSumL fe) :=
  ⟨pe_callB (call_sumL hc) hg hm (by decide +kernel) (pa_cons h.pe (pa_cons (pe_lst pa_nil) pa_nil hs1) hs2) (by decide) (by decide) hs2 hpl, evn_sumL h.ev⟩
/-! a comprehension's scope, from the def's text -/
def stSc (b : List Stmt) (i : Nat) : Scope := match b[i]? with
  | some (.Assign _ (.ListComp _ _ sc _) _) => sc
  | _ => default
end Vc

set_option Elab.async false
set_option linter.all false
set_option maxRecDepth 100000
set_option maxHeartbeats 4000000
/-! Dicts whose keys are pairs, and their sorted keys. -/
namespace Vc
open PySem PySem.Spec PyProof.Rows L2 PySem.W Lh
theorem perm_back {α β : Type} {f : α → β} : ∀ {l m : List β}, l.Perm m → ∀ L : List α, m = L.map f → ∃ L' : List α, l = L'.map f ∧ L'.Perm L := by
  intro l m h
  induction h with
  | nil => intro L e; exact ⟨L, e, .refl _⟩
  | cons x h ih =>
    intro L e
    cases L with
    | nil => cases e
    | cons a L =>
      injection e with e1 e2
      obtain ⟨L', e3, p⟩ := ih L e2
      exact ⟨a :: L', by rw [e1, e3]; rfl, p.cons a⟩
  | swap x y l =>
    intro L e
    match L, e with
    | a :: b :: L, e =>
      injection e with e1 e2
      injection e2 with e2 e3
      exact ⟨b :: a :: L, by rw [e1, e2, e3]; rfl, .swap _ _ _⟩
  | trans h1 h2 ih1 ih2 =>
    intro L e
    obtain ⟨L2, e2, p2⟩ := ih2 L e
    obtain ⟨L1, e1, p1⟩ := ih1 L2 e2
    exact ⟨L1, e1, p1.trans p2⟩
/-- the key tuples, each with its ints -/
theorem keys_ints {H : Hp} : ∀ {kvs : List (List L2.Key × V)} {ks : List (List L2.Key × Addr × Value)} {ps : List (Int × Int)}, KT H kvs ks → kvs.map Prod.fst = ps.map keyP →
    ∃ L : List (Addr × List Int), ks.map (fun x => x.2.1) = L.map (·.1) ∧ L.map (·.2) = ps.map (fun p => [p.1, p.2]) ∧ ∀ q ∈ L, H q.1 = some (.tup (q.2.map V.int))
  | [], _, [], .nil, _ => ⟨[], rfl, rfl, fun _ h => absurd h List.not_mem_nil⟩
  | [], _, _ :: _, .nil, e => by cases e
  | _ :: _, _, [], .cons _ _, e => by cases e
  | p :: kvs, _, y :: ps, .cons (b := b) h t, e => by
    injection e with e1 e2
    obtain ⟨L, h1, h2, h3⟩ := keys_ints t e2
    obtain ⟨_, hb, _⟩ := h
    refine ⟨(b.2.1, [y.1, y.2]) :: L, by rw [List.map_cons, List.map_cons, h1], by rw [List.map_cons, List.map_cons, h2], fun q hq => ?_⟩
    rcases List.mem_cons.mp hq with rfl | hq
    · rw [e1] at hb
      exact hb
    · exact h3 q hq
def rSortedDT : List V → Hp → VK → Prop := fun xs H Q => ∃ (d : Addr) (kvs : List (List L2.Key × V)) (ps : List (Int × Int)), xs = [V.ref d] ∧ Rd H d (.dT kvs) ∧ kvs.map Prod.fst = ps.map keyP ∧ ps.length < 64 ∧
  (∀ p ∈ ps, 0 ≤ p.1 ∧ p.1 < 64 ∧ 0 ≤ p.2 ∧ p.2 < 64) ∧ ∀ (L : List (Addr × List Int)) (p : Addr), (∀ q ∈ L, H q.1 = some (.tup (q.2.map V.int))) → (L.map (·.2)).Perm (ps.map fun p => [p.1, p.2]) → (L.map (·.2)).Nodup →
    L.Pairwise (fun q r => TS.code 64 q.2 ≤ TS.code 64 r.2) → H p = none → Q (.ref p) (upd H p (.lst (L.map fun q => V.ref q.1)))
theorem keyP_inj {p q : Int × Int} (h : keyP p = keyP q) : p = q := by
  unfold keyP at h
  injection h with h1 h2
  injection h2 with h2
  injection h1 with h1
  injection h2 with h2
  exact Prod.ext h1 h2
theorem cr_sortedDT {X : Cx} (hc : X.calm = true) : CallR X (.builtin "sorted") rSortedDT := by
  intro pins s σ H xs us Q I r h
  obtain ⟨d, kvs, ps, rfl, hd, hk, h64, hb, q⟩ := h
  obtain ⟨u, rfl, rx⟩ := r.one
  cases rx
  obtain ⟨z, hs, ks, pr, o, es, ep, ho, hx, hdt, he, hn⟩ := (show ObjOk X.prog X.w H s.heap d (.dT kvs) from hd.ok I.hok)
  have l1 : es.size = ks.length := size_of_entries he
  have l2 : kvs.length = ks.length := Paired.length pr
  have l3 : kvs.length = ps.length := by
    have := congrArg List.length hk
    simpa using this
  obtain ⟨L0, g1, g2, g3⟩ := keys_ints pr hk
  have lL : L0.length = ps.length := by
    have := congrArg List.length g2
    simpa using this
  have nk : ∀ {kvs : List (List L2.Key × V)} {ks : List (List L2.Key × Addr × Value)}, KT H kvs ks → kvs.map Prod.fst = ks.map (·.1) := by
    intro kvs ks t
    induction t with
    | nil => rfl
    | cons h t ih => rw [List.map_cons, List.map_cons, ih, h.1]
  have nd : (L0.map (·.2)).Nodup := by
    rw [g2]
    rw [← nk pr, hk] at hn
    have h1 : ps.Nodup := (List.pairwise_map.mp hn).imp fun h e => h (by rw [e])
    refine List.pairwise_map.mpr (h1.imp fun {a b} ne e => ne ?_)
    injection e with e1 e2
    injection e2 with e2
    exact Prod.ext e1 e2
  refine Calls.call_function_entry PyProof.Rows.kind_sorted PyProof.Rows.plain_sorted PyProof.Rows.entry_sorted (PyProof.Rows.args_sorted1 _) ?_
  unfold Builtin.«sorted»
  refine wpAny_bind (m := checkCount "sorted" 1 1 _) (wpAny_pure ?_)
  refine wpAny_bind (PySem.W.kdu_collect (A := X.A.in1) (kdl_raw hs hx hdt) (I.ok.hd hc) ho (by rw [sizeLine_eq]; omega) fun h' tk acc hk' hacc => ?_)
  have ea : acc.toList = ks.map fun x => Value.ref x.2.1 := by
    have hl : acc.toList.length = ks.length := by rw [Array.length_toList, hacc.1]; exact l1
    apply List.ext_getElem?
    intro j
    rw [List.getElem?_map]
    cases hj : acc.toList[j]? with
    | none =>
      have h1 := List.getElem?_eq_none_iff.mp hj
      rw [List.getElem?_eq_none (by omega)]
      all_goals rfl
    | some v =>
      obtain ⟨en, hen, hv⟩ := hacc.2 j v (by rw [← Array.getElem?_toList]; exact hj)
      have qe := entry_at he j
      rw [hen] at qe
      cases hb : ks[j]? with
      | none =>
        rw [hb] at qe
        exact nomatch (show some en = none from qe)
      | some b =>
        rw [hb] at qe
        have e2 : en = entryOfKey (tupleKind (mixKind X.prog X.w)) b := Option.some.inj qe
        rw [hv, e2]
        all_goals rfl
  have eb : acc.toList = L0.map fun q => Value.ref q.1 := by
    have e1 : (ks.map fun x => Value.ref x.2.1) = (ks.map fun x => x.2.1).map Value.ref := by rw [List.map_map]; rfl
    have e2 : (L0.map fun q => Value.ref q.1) = (L0.map (·.1)).map Value.ref := by rw [List.map_map]; rfl
    rw [ea, e1, g1, e2]
  have hal : acc.toList.length < 64 := by rw [eb, List.length_map, lL]; exact h64
  have I1 : Inv X pins σ H { s with heap := h', toks := tk } := I.kept hk'
  refine wpAny_bind (wpAny_newList ?_ (by rw [sizeLine_eq]; omega))
  have hoL : (h'.push (seqObj "list" acc.toList.toArray 0)).get? h'.objs.size = some (seqObj "list" acc.toList.toArray 0) := Heap.get?_push_size _ rfl
  show wpAny _ _ _ _ _ { s with heap := h'.push (seqObj "list" acc.toList.toArray 0), toks := tk }
  have tki : ∀ q ∈ L0, TS.TupInts (h'.push (seqObj "list" acc.toList.toArray 0)) (.ref q.1) q.2 := fun q hq =>
    tupInts_of (P := X.prog) (w := X.w) (isT_keep (I.isT (.inl (.inl (g3 q hq)))) fun b u e => Heap.get?_push_of_some _ (hk' b u e))
  have bd : ∀ q ∈ L0, q.2.length = 2 ∧ TS.Bd 64 q.2 := fun q hq => by
    have : q.2 ∈ L0.map (·.2) := List.mem_map_of_mem hq
    rw [g2] at this
    obtain ⟨p, hp, e⟩ := List.mem_map.mp this
    obtain ⟨b1, b2, b3, b4⟩ := hb p hp
    rw [← e]
    refine ⟨rfl, fun x hx => ?_⟩
    rcases List.mem_cons.mp hx with rfl | hx
    · exact ⟨b1, b2⟩
    · rcases List.mem_cons.mp hx with rfl | hx
      · exact ⟨b3, b4⟩
      · exact absurd hx List.not_mem_nil
  have x : TS.TupsOk (h'.push (seqObj "list" acc.toList.toArray 0)) 2 64 acc.toList := fun v hv => by
    rw [eb] at hv
    obtain ⟨q, hq, e⟩ := List.mem_map.mp hv
    rw [← e]
    exact ⟨q.2, tki q hq, (bd q hq).1, (bd q hq).2⟩
  refine wpAny_bind (wpAny_holding (TS.call_sort_tups (s := { s with heap := h'.push (seqObj "list" acc.toList.toArray 0), toks := tk }) hoL hal (by decide) x fun out a1 a2 => ?_))
  obtain ⟨c, hc2⟩ := sortedHeap_at (vs := acc.toList) (out := out) hoL
  obtain ⟨L', e', pL⟩ := perm_back a1 L0 eb
  have hs' : ∀ q ∈ L', q ∈ L0 := fun q hq => pL.mem_iff.mp hq
  have pw : L'.Pairwise (fun q r => TS.code 64 q.2 ≤ TS.code 64 r.2) := by
    rw [e'] at a2
    refine List.Pairwise.imp_of_mem (fun {q r} hq hr hle => ?_) (List.pairwise_map.mp a2)
    have f1 : TS.intsOf (h'.push (seqObj "list" acc.toList.toArray 0)) (.ref q.1) = q.2 := (tki q (hs' q hq)).ints
    have f2 : TS.intsOf (h'.push (seqObj "list" acc.toList.toArray 0)) (.ref r.1) = r.2 := (tki r (hs' r hr)).ints
    rw [← f1, ← f2]
    exact hle
  have hfew : L'.length < 64 := by rw [pL.length_eq, lL]; exact h64
  have hlen : (L'.map fun q => V.ref q.1).length ≤ sizeLine := by rw [List.length_map, sizeLine_eq]; omega
  have hv : Vals (L'.map fun q => V.ref q.1) out.toList := by rw [e']; exact vals_of_refs L'
  refine wpAny_pure ⟨_, rfl, .ref h'.objs.size, upd H h'.objs.size (.lst (L'.map fun q => V.ref q.1)), I1.laid (t' := tk) (fun b u e => ?_) (Nat.le_refl _)
    (show ObjOk X.prog X.w _ _ _ (.lst (L'.map fun q => V.ref q.1)) from ⟨hlen, out.toList, c, hv, by rw [Array.toArray_toList]; exact hc2⟩), rfl,
    q L' _ (fun q hq => g3 q (hs' q hq)) (by rw [← g2]; exact pL.map _) ((pL.map (·.2)).nodup_iff.mpr nd) pw (I1.hok.fresh (Nat.le_refl _))⟩
  have hb2 : b < h'.objs.size := Heap.lt_size e
  rw [sortedHeap_old (Nat.ne_of_lt hb2) (by rw [size_push']; exact Nat.lt_succ_of_lt hb2)]
  exact Heap.get?_push_of_some _ e
end Vc

set_option Elab.async false
set_option linter.all false
set_option maxRecDepth 100000
set_option maxHeartbeats 4000000
/-! repr of anything whose dicts are empty, where nothing is under way. -/
namespace Vc
open PySem PySem.Spec PyProof.Rows L2 PySem.W Lh
mutual
/-- each dict within is empty -/
def noKv : PyData → Bool
  | .list xs => noKvs xs
  | .tuple xs => noKvs xs
  | .dict kvs => kvs.isEmpty
  | .none => true
  | .bool _ => true
  | .int _ => true
  | .str _ => true
def noKvs : List PyData → Bool
  | [] => true
  | x :: xs => noKv x && noKvs xs
end
/-- how a value's text comes about -/
def Tl (X : Cx) (h : Heap) (u : Value) (d : PyData) : Prop := ∃ bs as, Reads h u d as ∧ ReadAtMost h d.depth bs ∧ ReprK X.prog X.w bs h d.depth u d.shown
def Tls (X : Cx) (h : Heap) (us : List Value) (ds : List PyData) : Prop := ∃ bs as, ReadsAll h us ds as ∧ ReadAtMost h (PyData.depthAll ds) bs ∧ ReprAllK X.prog X.w bs h (PyData.depthAll ds) us (PyData.shownAll ds)
section
variable {X : Cx} {pins : List (Addr × Obj)} {σ : L2.St} {H : Hp} {s : Shared} {A : Addr → Prop}
mutual
theorem tl_of (I : Inv X pins σ H s) : ∀ (d : PyData) (v : V) (u : Value), Dq A H v d → RelV v u → d.showable = true → noKv d = true → d.shown.length ≤ sizeLine → Tl X s.heap u d
  | .none, _, _, h, r, _, _, _ => by
    cases h; cases r
    refine ⟨[], _, .none, fun _ z => (nomatch z), ?_⟩
    rw [PyData.shown]; exact .of_is ReprIs.none _ _ _
  | .bool b, _, _, h, r, _, _, _ => by
    cases h; cases r
    refine ⟨[], _, .bool b, fun _ z => (nomatch z), ?_⟩
    rw [PyData.shown]; exact .of_is (ReprIs.bool b) _ _ _
  | .int i, _, _, h, r, hs, _, _ => by
    cases h; obtain ⟨t, rfl⟩ := r
    refine ⟨[], _, .int i t, fun _ z => (nomatch z), ?_⟩
    rw [PyData.shown]; exact .of_is (ReprIs.int t (by simpa [PyData.showable] using hs)) _ _ _
  | .str x, _, _, h, r, _, _, hz => by
    cases h; obtain ⟨t, rfl⟩ := r
    refine ⟨[], _, .str x t, fun _ z => (nomatch z), ?_⟩
    rw [PyData.shown] at hz ⊢; exact .of_is (ReprIs.str x t hz) _ _ _
  | .list ds, _, _, h, r, hs, hn, hz => by
    cases h with
    | lst hl _ ha =>
      cases r
      rw [PyData.shown] at hz
      rw [PyData.showable] at hs
      rw [noKv] at hn
      obtain ⟨its, rv, ⟨o, n, ho, hc, _, hd⟩, _⟩ := I.list (.inl (.inl hl))
      obtain ⟨bs, as, q1, q2, q3⟩ := tls_of I ds _ its ha rv hs hn fun t ht => Nat.le_trans (listText_mem_le ht) hz
      have rr : Reads s.heap (.ref _) (.list ds) _ := .list ho hc hd q1
      have no := not_mem_of_deeper rr (show PyData.depthAll ds < (PyData.list ds).depth by rw [PyData.depth]; omega) q2
      refine ⟨_ :: bs, _, rr, ReadAtMost.cons rr (by rw [PyData.depth]; omega) q2, ?_⟩
      rw [PyData.depth, PyData.shown]
      cases its with
      | nil =>
        cases q1
        rw [PyData.shownAll, listText_nil]
        exact ReprK.listEmpty ho hc hd
      | cons y l => exact ReprK.list ho hc hd no (by simpa using q3.length_eq) fun i z e => q3.item i z (by simpa using e)
  | .tuple ds, _, _, h, r, hs, hn, hz => by
    cases h with
    | tup hl _ ha =>
      cases r
      rw [PyData.shown] at hz
      rw [PyData.showable] at hs
      rw [noKv] at hn
      obtain ⟨its, rv, ⟨o, ho, hc, n, hd⟩, _⟩ := I.tuple (.inl hl.rd)
      obtain ⟨bs, as, q1, q2, q3⟩ := tls_of I ds _ its ha rv hs hn fun t ht => Nat.le_trans (tupleText_mem_le ht) hz
      have rr : Reads s.heap (.ref _) (.tuple ds) _ := .tuple ho hc hd q1
      have no := not_mem_of_deeper rr (show PyData.depthAll ds < (PyData.tuple ds).depth by rw [PyData.depth]; omega) q2
      refine ⟨_ :: bs, _, rr, ReadAtMost.cons rr (by rw [PyData.depth]; omega) q2, ?_⟩
      rw [PyData.depth, PyData.shown]
      exact ReprK.tuple ho hc hd no q3
  | .dict kvs, _, _, h, r, _, hn, _ => by
    rw [noKv] at hn
    obtain rfl : kvs = [] := List.isEmpty_iff.mp hn
    cases h with
    | @dct a kv _ hl _ h1 h2 =>
      cases kv with
      | cons _ _ => cases h1
      | nil =>
        cases r
        obtain ⟨_, hsys, vs, rel, o, es, ep, ho, hx, hd, _, he, _⟩ := (show ObjOk X.prog X.w H s.heap _ (.dK []) from hl.ok I.hok)
        cases rel
        have e0 : es.toList = [] := by
          generalize es.toList = l at he
          cases he
          rfl
        have r1 : ReadsAll s.heap (es.toList.map (·.key)) (([] : List (PyData × PyData)).map (·.1)) [] := by rw [e0]; exact .nil
        have r2 : ReadsAll s.heap (es.toList.map (·.val)) (([] : List (PyData × PyData)).map (·.2)) [] := by rw [e0]; exact .nil
        refine ⟨[a], _, .dict ho hx.1 hd r1 r2, fun b hb => ?_, ?_⟩
        · rw [List.mem_singleton.mp hb]
          exact ⟨_, _, .dict ho hx.1 hd r1 r2, Nat.le_refl _⟩
        · rw [PyData.depth, PyData.shown, PyData.shownKv, PyData.depthKv]
          exact ReprK.dict ho hx.1 hd hsys (fun z => (nomatch z)) (by rw [e0]; exact .nil)
theorem tls_of (I : Inv X pins σ H s) : ∀ (ds : List PyData) (vs : List V) (us : List Value), DqA A H vs ds → Vals vs us → PyData.showableAll ds = true → noKvs ds = true → (∀ t ∈ PyData.shownAll ds, t.length ≤ sizeLine) → Tls X s.heap us ds
  | [], _, _, h, r, _, _, _ => by
    cases h; cases r
    refine ⟨[], _, .nil, fun _ z => (nomatch z), ?_⟩
    rw [PyData.shownAll]; exact .nil
  | d :: ds, _, _, h, r, hs, hn, hz => by
    cases h with
    | cons h1 h2 =>
      cases r with
      | cons r1 r2 =>
        rw [PyData.showableAll, Bool.and_eq_true] at hs
        rw [noKvs, Bool.and_eq_true] at hn
        rw [PyData.shownAll] at hz
        obtain ⟨b1, a1, p1, p2, p3⟩ := tl_of I d _ _ h1 r1 hs.1 hn.1 (hz _ List.mem_cons_self)
        obtain ⟨b2, a2, q1, q2, q3⟩ := tls_of I ds _ _ h2 r2 hs.2 hn.2 fun t ht => hz t (List.mem_cons_of_mem _ ht)
        refine ⟨b1 ++ b2, _, .cons p1 q1, ?_, ?_⟩
        · rw [PyData.depthAll]
          exact ReadAtMost.append (p2.mono (Nat.le_max_left _ _)) (q2.mono (Nat.le_max_right _ _))
        · rw [PyData.depthAll, PyData.shownAll]
          exact .cons ((p3.more fun b hb => List.mem_append_left _ hb).level_le (Nat.le_max_left _ _)) (q3.more_le (fun b hb => List.mem_append_right _ hb) (Nat.le_max_right _ _))
end
end
abbrev rReprA : List V → Hp → VK → Prop := fun xs H Q => ∃ (A : Addr → Prop) (v : V) (d : PyData), xs = [v] ∧ Dq A H v d ∧ d.showable = true ∧ noKv d = true ∧ d.depth ≤ 60 ∧ d.shown.length ≤ sizeLine ∧ Q (.str d.shown) H
theorem call_reprA {X : Cx} (hg : X.A.guards = some []) (hu : X.A.units + 64 < cLine) : CallR X (.builtin "repr") rReprA := by
  intro pins s σ H xs us Q I r h
  obtain ⟨A, v, d, rfl, hd, h1, h2, h3, h4, q⟩ := h
  obtain ⟨u, rfl, rx⟩ := vals1 r
  have K : ∀ (h' : Heap) (u' : Tok) (tk : Nat) (t : Str), t = d.shown → (∀ b o, s.heap.get? b = some o → h'.get? b = some o) → ∃ v H', Inv X pins σ H' { s with heap := h', toks := tk } ∧ RelV v (.str t u') ∧ Q v H' := fun h' u' tk t e k => ⟨.str _, H, I.kept k, ⟨_, rfl⟩, e ▸ q⟩
  cases d with
  | none =>
    cases hd; cases rx
    exact PySem.P.repr_of_none (K s.heap _ _ _ (by rw [PyData.shown]) fun _ _ e => e)
  | bool b =>
    cases hd; cases rx
    exact PySem.P.repr_of_bool (K s.heap _ _ _ (by rw [PyData.shown]) fun _ _ e => e)
  | int i =>
    cases hd; obtain ⟨t, rfl⟩ := rx
    exact PySem.P.repr_of_int (by simpa [PyData.showable] using h1) (K s.heap _ _ _ (by rw [PyData.shown]) fun _ _ e => e)
  | str x =>
    cases hd; obtain ⟨t, rfl⟩ := rx
    exact PySem.P.repr_of_str (K s.heap _ _ _ (by rw [PyData.shown]) fun _ _ e => e) h4
  | list ds =>
    obtain ⟨bs, as, rr, _, _⟩ := tl_of I _ _ _ hd rx h1 h2 h4
    cases rr with
    | @list a o vs n _ as' ho hc hd' q1 =>
      obtain ⟨b2, hb2, q3⟩ : ∃ b2, ReadAtMost s.heap (PyData.depthAll ds) b2 ∧ ReprAllK X.prog X.w b2 s.heap (PyData.depthAll ds) vs.toList (PyData.shownAll ds) := by
        cases hd with
        | lst hl _ ha =>
          cases rx
          obtain ⟨its, rv, ⟨o', n', ho', _, _, hd2⟩, _⟩ := I.list (.inl (.inl hl))
          rw [ho] at ho'
          cases ho'
          rw [hd'] at hd2
          cases hd2
          obtain ⟨b2, _, _, w2, w3⟩ := tls_of I ds _ its ha rv (by rw [PyData.showable] at h1; exact h1) (by rw [noKv] at h2; exact h2) fun t ht => Nat.le_trans (listText_mem_le ht) (by rw [PyData.shown] at h4; exact h4)
          exact ⟨b2, w2, w3⟩
      have no := not_mem_of_deeper (Reads.list ho hc hd' q1) (show PyData.depthAll ds < (PyData.list ds).depth by rw [PyData.depth]; omega) hb2
      rw [PyData.depth] at h3
      rw [PyData.shown] at h4
      refine call_repr_slot (by omega) ⟨o, ho, hc⟩ F.slot_list_repr.toG ?_
      have fin : ∀ h' u' tk, (∀ b o, s.heap.get? b = some o → h'.get? b = some o) → ∃ x t, (Value.str (listText (PyData.shownAll ds)) u') = .str x t ∧ ∃ v H', Inv X pins σ H' { s with heap := h', toks := tk } ∧ RelV v (.str (listText (PyData.shownAll ds)) u') ∧ Q v H' := fun h' u' tk k => ⟨_, _, rfl, K h' u' tk _ (by rw [PyData.shown]) k⟩
      obtain ⟨l⟩ := vs
      cases l with
      | nil =>
        cases q1
        rw [PyData.shownAll, listText_nil] at fin
        exact call_list_repr_empty ⟨o, ho, hc⟩ ho hd' (fin _ _ _ fun _ _ e => e)
      | cons y l => exact call_list_reprK ho hc hd' no (by simpa using q3.length_eq) (fun i z e => q3.item i z (by simpa using e)) hg (fun b _ => Clear.nil b) (by show X.A.units + 1 + (PyData.depthAll ds + 1) < cLine; omega) (fun _ _ e => e) fin h4
  | tuple ds =>
    cases hd with
    | tup hl _ ha =>
      cases rx
      rw [PyData.showable] at h1
      rw [noKv] at h2
      rw [PyData.shown] at h4
      rw [PyData.depth] at h3
      obtain ⟨its, rv, ⟨o, ho, hc, n, hd'⟩, _⟩ := I.tuple (.inl hl.rd)
      obtain ⟨b2, a2, q1, hb2, q3⟩ := tls_of I ds _ its ha rv h1 h2 fun t ht => Nat.le_trans (tupleText_mem_le ht) h4
      have no := not_mem_of_deeper (Reads.tuple ho hc hd' q1) (show PyData.depthAll ds < (PyData.tuple ds).depth by rw [PyData.depth]; omega) hb2
      exact call_repr_slot (by omega) ⟨o, ho, hc⟩ F.slot_tuple_repr (call_tuple_reprK ho hc hd' no q3 hg (fun b _ => Clear.nil b) (by show X.A.units + 1 + (PyData.depthAll ds + 1) < cLine; omega) (fun _ _ e => e)
        (fun h' u' tk k => ⟨_, _, rfl, K h' u' tk _ (by rw [PyData.shown]) k⟩) h4)
  | dict kvs =>
    rw [noKv] at h2
    obtain rfl : kvs = [] := List.isEmpty_iff.mp h2
    cases hd with
    | @dct a kv _ hl _ g1 g2 =>
      cases kv with
      | cons _ _ => cases g1
      | nil =>
        cases rx
        obtain ⟨_, hsys, vs, rel, o, es, ep, ho, hx, hd', _, he, _⟩ := (show ObjOk X.prog X.w H s.heap _ (.dK []) from hl.ok I.hok)
        cases rel
        have e0 : es.toList = [] := by
          generalize es.toList = l at he
          cases he
          rfl
        rw [PyData.shown, PyData.shownKv] at h4
        exact call_repr_slot (by omega) ⟨o, ho, hx.1⟩ F.slot_dict_repr (call_dict_reprK (as := []) (d := 0) ho hx.1 hd' hsys (fun z => (nomatch z)) (by rw [e0]; exact .nil) hg (fun b _ => Clear.nil b) (by show X.A.units + 1 + (0 + 1) < cLine; omega) (fun _ _ e => e)
          (fun h' u' tk k => ⟨_, _, rfl, K h' u' tk _ (by rw [PyData.shown, PyData.shownKv]) k⟩) h4)
theorem k_reprA {X : Cx} (hg : X.A.guards = some []) (hu : X.A.units + 64 < cLine) : CallR X (.builtin "repr") rReprA := call_reprA hg hu
/-- repr of anything whose dicts are empty -/
def gReprA : List PyData → (PyData → Prop) → Prop := fun ds Q => ∃ d, ds = [d] ∧ d.showable = true ∧ noKv d = true ∧ d.depth ≤ 60 ∧ d.shown.length ≤ sizeLine ∧ Q (.str d.shown)
theorem ar_reprA {S : Stt} : ArD S rReprA gReprA := fun {m Γ σ H vs ds Q R} ok E o k q => by
  obtain ⟨d, rfl, h1, h2, h3, h4, k⟩ := k
  obtain ⟨v, rfl, a⟩ := dqa1 o
  exact ⟨m.A, v, d, rfl, a, h1, h2, h3, h4, q _ H _ Stp.refl (.str _) k⟩
end Vc

set_option Elab.async false
set_option linter.all false
set_option maxRecDepth 100000
set_option maxHeartbeats 4000000
/-! Dicts whose keys are pairs; the script's length; capitals; truths as numbers. -/
namespace Vc
open PySem PySem.Spec PyProof.Rows L2 PySem.W Lh
/-! ### x = {}, its keys to be pairs -/
def pPut (ps : List (Int × Int)) (p : Int × Int) : List (Int × Int) := if p ∈ ps then ps else ps ++ [p]
theorem pput_ok {kvs : List (List L2.Key × V)} {ps : List (Int × Int)} {p : Int × Int} {y : V} (e : kvs.map Prod.fst = ps.map keyP) : (putK kvs (keyP p) y).map Prod.fst = (pPut ps p).map keyP := by
  have hany : (kvs.any fun kv => decide (kv.1 = keyP p)) = decide (p ∈ ps) := by
    have : (kvs.any fun kv => decide (kv.1 = keyP p)) = (kvs.map Prod.fst).any fun k => decide (k = keyP p) := by rw [List.any_map]; rfl
    rw [this, e, List.any_map]
    by_cases h : p ∈ ps
    · rw [decide_eq_true h, List.any_eq_true]
      exact ⟨p, h, decide_eq_true rfl⟩
    · rw [decide_eq_false h, List.any_eq_false]
      intro z hz hk
      exact h (keyP_inj (of_decide_eq_true hk) ▸ hz)
  unfold putK pPut
  rw [hany]
  by_cases h : p ∈ ps
  · rw [decide_eq_true h, if_pos rfl, if_pos h, List.map_map, ← e]
    refine List.map_congr_left fun z _ => ?_
    show (if z.1 = keyP p then (z.1, y) else z).1 = z.1
    split <;> rfl
  · rw [decide_eq_false h, if_neg Bool.false_ne_true, if_neg h, List.map_append, List.map_append, e]
    rfl
def aSetT (i : Nat) : AS := fun En a => En.nx (a.set i (.t []))
/-- x[(..)] = v -/
def aPutT (i : Nat) (aa : AN) (fv : AE) : AS := fun En a => fv a fun _ => match a[i]? with
  | some (.t ps) => aa a fun ds => match ds with
    | [.int u, .int w] => ps.length < sizeLine ∧ En.nx (a.set i (.t (pPut ps (u, w))))
    | _ => False
  | _ => False
/-- sorted(x) -/
def aSortT (i : Nat) : AN := fun a Q => match a[i]? with
  | some (.t ps) => ps.length < 64 ∧ (∀ p ∈ ps, 0 ≤ p.1 ∧ p.1 < 64 ∧ 0 ≤ p.2 ∧ p.2 < 64) ∧ ∀ qs : List (Int × Int), qs.Pairwise ltP → (∀ p, p ∈ qs ↔ p ∈ ps) → Q (qs.map pairD)
  | _ => False
section
variable {X : Cx} {S : Stt} {κ : Bool} {i : Nat} {x : Str} {ev : Expr} {es : List Expr} {tv : TE} {fv : AE} {t : TA} {aa : AN} {c_v c_t : Nat} {pos px pd p2 np tp : Pos} {kk : Nat} {K : Frag}
theorem stw_setT : StW S κ 0 (tAsg tDNewT (gName i)) (aSetT i) := fun F De En a σ H kr c ⟨m, Γ, f, mt, d, E⟩ h => fun p hp => by
  have E0 : Env (m.add p) kr Γ σ (upd H p (.dT [])) := (Env.newM0 E hp Tk.dT).le
  exact c.nx _ _ _ ⟨m.add p, _, f.add, mt.set (.t [] p), d.setB (NoBox.wk (E.noBox hp)), E0.set ⟨rfl, .inr rfl, E.freeM hp, E.free0 hp, _, upd_same, [], rfl, rfl⟩⟩ h
theorem s_setT (hN : X.N.Nodup) (hi : X.N[i]? = some x) (hx : Loc X.env.scope x) (hs : swapsWith (.Dict [] [] pd) (some (.Name x px)) pos.line X.env = pure false := by rfl)
    (hf : X.fn x = true ∨ X.env.scope.names.lookup x = some .local := by first | exact .inl rfl | exact .inr rfl | assumption) : PVst X S κ 0 (.Assign [.Name x px] (.Dict [] [] pd) pos) (tAsg tDNewT (gName i)) (aSetT i) := ⟨ps_set hN hi hx pe_dnewT hs hf, stw_setT⟩
theorem stw_putT (hv : EvW S c_v tv fv) (ha : EvAs S c_t (some 2) t aa) : StW S κ (c_v + c_t) (sDPut (tVar i) (tTup t) tv) (aPutT i aa fv) := fun F De En a σ H kr c ⟨m, Γ, f, mt, d, E⟩ h =>
  hv m Γ a _ f.ok mt h σ H E.le _ fun y H1 s ⟨_, oy, k⟩ => by
    have E1 : Env m (c_t + kr) Γ σ H1 := E.step s
    split at k
    · rename_i ps e
      obtain ⟨q, e⟩ := mt.t e
      obtain ⟨v', h1', rfl, _⟩ := E1.sl i _ e
      refine ⟨_, h1', ha m Γ a _ f.ok mt k σ H1 E1.le _ fun vs ds H2 hn s2 o k6 => ?_⟩
      split at k6
      · rename_i u w
        obtain ⟨hz, k7⟩ := k6
        have ex : vs = [V.int u, V.int w] := DqA.ints (ns := [u, w]) o
        subst ex
        have E2 : Env m kr Γ σ H2 := E1.step s2
        refine ⟨by rw [sizeLine_eq]; show 2 ≤ _; decide, fun p hp => ?_⟩
        have E3 : Env m kr Γ σ (upd H2 p (.tup [V.int u, V.int w])) := E2.step (Stp.new hp)
        obtain ⟨w', h2, rfl, k1, k2, k3, o', k4, kvs, rfl, e1⟩ := E3.sl i _ e
        have hl : kvs.length = ps.length := by
          have := congrArg List.length e1
          simpa using this
        exact ⟨q, _, rfl, DPut.t (k := keyP (u, w)) k4 upd_same (by rw [hl]; exact hz), c.nx _ _ _ ⟨m, _, f, mt.set (.t _ q), d.setB (d.alone e), E3.rebox (b' := bT (pPut ps (u, w))) e (d.alone e) ⟨_, rfl, pput_ok e1⟩ Tk.dT⟩ k7⟩
      · exact k6.elim
    · exact k.elim
theorem s_putT (i : Nat) (hu : X.A.units + 1 < cLine) (hv : PV X S c_v ev tv fv) (ha : PVA X S c_t (some 2) es t aa) (hs : swapsWith ev (some (.Subscript (.Name x np) (.Tuple es kk tp) p2)) pos.line X.env = pure false := by rfl) (hN : X.N[i]? = some x := by rfl)
    (hvx : Vis X.env.scope x := by first | exact Or.inl rfl | exact Or.inr (Or.inl rfl) | exact Or.inr (Or.inr rfl)) (hd : (x == ("__debug__" : Str)) = false := by decide) (hcd : (x == ("__classdict__" : Str)) = false := by decide) :
    PVst X S κ (c_v + c_t) (.Assign [.Subscript (.Name x np) (.Tuple es kk tp) p2] ev pos) (sDPut (tVar i) (tTup t) tv) (aPutT i aa fv) := ⟨ps_dput hu (pe_var hN hvx hd hcd) (pe_tup ha.pe) hv.pe hs, stw_putT hv.ev ha.ev⟩
theorem evn_sortT : EvN S 0 (tCB rSortedDT (tCons (tVar i) tNil)) (aSortT i) := fun m Γ a Q ok mt hh σ H E R q => by
  unfold aSortT at hh
  split at hh
  · rename_i ps e
    obtain ⟨hl, hb, hq⟩ := hh
    obtain ⟨b, e⟩ := mt.t e
    obtain ⟨v, h1, rfl, k1, k2, k3, o, k4, kvs, rfl, e1⟩ := E.sl i _ e
    refine ⟨_, h1, b, kvs, ps, rfl, .inl k4, e1, hl, hb, fun L p hL pm nd pw hp => ?_⟩
    have two : ∀ r ∈ L, ∃ z ∈ ps, r.2 = [z.1, z.2] := fun r hr => by
      obtain ⟨z, hz, ez⟩ := List.mem_map.mp (pm.mem_iff.mp (List.mem_map_of_mem hr))
      exact ⟨z, hz, ez.symm⟩
    have bk : ∀ r ∈ L, r.2 = [(backP r.2).1, (backP r.2).2] ∧ backP r.2 ∈ ps := fun r hr => by
      obtain ⟨z, hz, ez⟩ := two r hr
      rw [ez]
      exact ⟨rfl, hz⟩
    have nM : ¬ m.A p := Env.free E hp
    refine q p _ ((L.map fun r => backP r.2).map pairD) _ (Stp.new hp) hp upd_same ?_ (hq _ ?_ fun z => ?_)
    · have key : ∀ l : List (Addr × List Int), (∀ r ∈ l, r ∈ L) → DqA (fun b => m.A b ∨ b = p) (upd H p (.lst (L.map fun q => V.ref q.1))) (l.map fun q => V.ref q.1) ((l.map fun r => backP r.2).map pairD) := by
        intro l
        induction l with
        | nil => intro _; exact .nil
        | cons r l ih =>
          intro hl
          have hr := hl r List.mem_cons_self
          have ht := hL r hr
          have hne : r.1 ≠ p := fun z => by rw [z, hp] at ht; cases ht
          have hA : ¬ m.A r.1 := fun z => (E.trk _ z).2 _ ht
          refine .cons (.tup (xs := [V.int (backP r.2).1, V.int (backP r.2).2]) (.inl ?_) (fun z => z.elim hA hne) (.cons (.int _) (.cons (.int _) .nil))) (ih fun r' h' => hl r' (List.mem_cons_of_mem _ h'))
          rw [upd_ne hne, ht]
          exact congrArg (fun l => some (HO.tup l)) (congrArg (List.map V.int) (bk r hr).1)
      exact key L fun _ h => h
    · rw [List.pairwise_map]
      rw [List.Nodup, List.pairwise_map] at nd
      refine List.Pairwise.imp_of_mem (fun {r r'} hr hr' ⟨h1, h2⟩ => ?_) (pw.and nd)
      obtain ⟨e1, m1⟩ := bk r hr
      obtain ⟨e2, m2⟩ := bk r' hr'
      obtain ⟨b1, b2, b3, b4⟩ := hb _ m1
      obtain ⟨c1, c2, c3, c4⟩ := hb _ m2
      rw [e1, e2] at h1 h2
      exact pair_lt h1 h2 ⟨b1, b2⟩ ⟨b3, b4⟩ ⟨c1, c2⟩ ⟨c3, c4⟩
    · constructor
      · intro hz
        obtain ⟨r, hr, e⟩ := List.mem_map.mp hz
        rw [← e]
        exact (bk r hr).2
      · intro hz
        have : [z.1, z.2] ∈ L.map (·.2) := pm.mem_iff.mpr (List.mem_map.mpr ⟨z, hz, rfl⟩)
        obtain ⟨r, hr, e⟩ := List.mem_map.mp this
        refine List.mem_map.mpr ⟨r, hr, ?_⟩
        show backP r.2 = z
        rw [show r.2 = [z.1, z.2] from e]
        rfl
  · exact hh.elim
theorem n_sortT (i : Nat) {p1 : Pos} (hc : X.calm = true) (hm : X.mg "sorted" = none) (hg : Gl X "sorted" := by rfl) (hN : X.N[i]? = some x := by rfl)
    (hvx : Vis X.env.scope x := by first | exact Or.inl rfl | exact Or.inr (Or.inl rfl) | exact Or.inr (Or.inr rfl)) (hd : (x == ("__debug__" : Str)) = false := by decide) (hcd : (x == ("__classdict__" : Str)) = false := by decide)
    (he : starEach [.Name x np] X.env = (false, eval (.Name x np) X.env) :: starEach [] X.env := by rfl) (hpl : (backTo pos (starEach [] X.env)).any (·.1) = false := by rfl) :
    PVN X S 0 (.Call (.Name "sorted" p1) [.Name x np] [] pos) (tCB rSortedDT (tCons (tVar i) tNil)) (aSortT i) :=
  ⟨pe_callB (cr_sortedDT hc) hg hm (by decide +kernel) (pa_cons (pe_var hN hvx hd hcd) pa_nil he) (by decide) (by decide) he hpl, evn_sortT⟩
/-! ### len(script) -/
def aLenS (K : Frag) (i : Nat) : AE := fun a Q => match a[i]? with
  | some (.s K' n) => K' = K ∧ Q (.int (n : Nat))
  | _ => False
theorem evw_lenS : EvW S 0 (tCB (rLenA K) (tCons (tVar i) tNil)) (aLenS K i) := fun m Γ a Q ok mt hh σ H E R q => by
  unfold aLenS at hh
  split at hh
  · rename_i K' n e
    obtain ⟨rfl, hq⟩ := hh
    obtain ⟨v, h1, b, xs, rfl, hl, h⟩ := E.sl i _ (mt.s e)
    refine ⟨_, h1, .ref b, n, rfl, .inl ⟨xs, ?_, hl.symm⟩, q _ H Stp.refl ⟨_, .int _, hq⟩⟩
    rcases h with ⟨h, _⟩ | h
    · exact .inl h
    · exact .inr h
  · exact hh.elim
theorem e_lenS (K : Frag) (i : Nat) {p1 : Pos} (hm : X.mg "len" = none) (hg : Gl X "len" := by rfl) (hN : X.N[i]? = some x := by rfl)
    (hvx : Vis X.env.scope x := by first | exact Or.inl rfl | exact Or.inr (Or.inl rfl) | exact Or.inr (Or.inr rfl)) (hd : (x == ("__debug__" : Str)) = false := by decide) (hcd : (x == ("__classdict__" : Str)) = false := by decide)
    (he : starEach [.Name x np] X.env = (false, eval (.Name x np) X.env) :: starEach [] X.env := by rfl) (hpl : (backTo pos (starEach [] X.env)).any (·.1) = false := by rfl) (hK : X.K = K := by rfl) :
    PV X S 0 (.Call (.Name "len" p1) [.Name x np] [] pos) (tCB (rLenA K) (tCons (tVar i) tNil)) (aLenS K i) :=
  ⟨pe_callB (k_lenA K hK) hg hm (by decide +kernel) (pa_cons (pe_var hN hvx hd hcd) pa_nil he) (by decide) (by decide) he hpl, evw_lenS⟩
/-! ### s.upper() -/
def aUpper (fa : AE) : AE := fun a Q => fa a fun d => ∃ s, d = .str s ∧ s.length ≤ 5592405 ∧ Q (.str (Txt.upper s))
theorem e_upper {o : Expr} {to : TE} {fa : AE} {c : Nat} {apos : Pos} (h : PV X S c o to fa) (hbase : attributeBase o "upper" X.env (eval o X.env) = eval o X.env := by rfl) (hline : (apos.endLine == pos.line) = true := by rfl) :
    PV X S c (.Call (.Attribute o "upper" apos) [] [] pos) (tM0 (fun x xs H Q => ∃ a, x = .str a ∧ xs = [] ∧ a.length ≤ 5592405 ∧ Q (.str (Txt.upper a)) H) to) (aUpper fa) :=
  ⟨pe_upper h.pe hbase hline, fun m Γ a Q ok mt hh σ H E R q => h.ev m Γ a _ ok mt hh σ H E _ fun v H1 s ⟨d, o, z, e, hl, k⟩ => by
    subst e
    cases o
    exact ⟨⟨_, rfl⟩, z, rfl, rfl, hl, q _ H1 s ⟨_, .str _, k⟩⟩⟩
/-! ### truths as numbers -/
def rSubB : R2 := fun x y H Q => ∃ i j, b2 x = some i ∧ y = .int j ∧ Q (.int (i - j)) H
theorem op_subB : OpR X (binaryOp .Sub) rSubB := by
  intro pins s σ H x y v u Q I rx ry h
  obtain ⟨i, j, e, rfl, q⟩ := h
  obtain ⟨t', rfl⟩ := ry
  cases x with
  | int k =>
    cases e
    obtain ⟨t, rfl⟩ := rx
    exact sub_int ⟨.int _, H, I.tok _, ⟨_, rfl⟩, q⟩
  | bl b =>
    cases e
    cases rx
    exact PySem.IntBool.sub_bool_int ⟨.int _, H, I.tok _, ⟨_, rfl⟩, q⟩
  | _ => cases e
def gSubB : PyData → PyData → (PyData → Prop) → Prop := fun x y Q => ∃ i j, d2 x = some i ∧ y = .int j ∧ Q (.int (i - j))
theorem opd_subB : OpD S rSubB gSubB := fun {m Γ σ H x y dx dy Q R} ok E ox oy k q => by
  obtain ⟨i, j, e, rfl, k⟩ := k
  cases oy
  cases ox with
  | int => cases e; exact ⟨_, _, rfl, rfl, q _ H _ Stp.refl (.int _) k⟩
  | bl => cases e; exact ⟨_, _, rfl, rfl, q _ H _ Stp.refl (.int _) k⟩
  | _ => cases e
theorem slot_bool_neg : Slot "bool" "__neg__" "int.__neg__" :=
  .of (owner := "int") (n := "__neg__") (by rw [typeLookup_type, builtinLookup_eq_fast]; kernel_rfl) (by decide +kernel) (by decide +kernel) (by decide +kernel)
    (by first | exact .inl (by decide +kernel) | exact .inr (by decide +kernel)) (by rw [isSubtype_type]; kernel_rfl)
theorem gives_bool_neg (b : Bool) : Gives (Builtin.«int.__neg__» ⟨[.bool b], []⟩) (.int (-(if b then (1 : Int) else 0))) := .of_eq rfl
theorem neg_bool {prog : Program} {w : World} {A : Around} {E : Value → Shared → Prop} {s : Shared} {b : Bool} {Q : Value → Shared → Prop} (h : Q (.int (-(if b then (1 : Int) else 0)) s.toks) { s with toks := s.toks + 1 }) : wpAny (model prog w) A (unaryOp .USub (.bool b)) Q E s :=
  unaryOp_gives (op := .USub) (PySem.typeIs_bool s b) rfl slot_bool_neg F.entry_int_neg (F.args_int_neg_1 _) (gives_bool_neg b) h
def rNegB : V → Hp → VK → Prop := fun x H Q => ∃ i, b2 x = some i ∧ Q (.int (-i)) H
theorem un_negB : UnR X (unaryOp .USub) rNegB := by
  intro pins s σ H x v Q I rx h
  obtain ⟨i, e, q⟩ := h
  cases x with
  | int k =>
    cases e
    obtain ⟨t, rfl⟩ := rx
    exact neg_int ⟨.int _, H, I.tok _, ⟨_, rfl⟩, q⟩
  | bl b =>
    cases e
    cases rx
    exact neg_bool ⟨.int _, H, I.tok _, ⟨_, rfl⟩, q⟩
  | _ => cases e
def aNegB (fe : AE) : AE := fun a Q => fe a fun d => ∃ i, d2 d = some i ∧ Q (.int (-i))
theorem u_negB {e : Expr} {te : TE} {fe : AE} {c : Nat} (h : PV X S c e te fe) : PV X S c (.UnaryOp .USub e pos) (tUn rNegB te) (aNegB fe) := ⟨pe_un un_negB h.pe, fun m Γ a Q ok mt hh σ H E R q =>
  h.ev m Γ a _ ok mt hh σ H E _ fun v H1 s ⟨d, o, i, e, k⟩ => by
    cases o with
    | int => cases e; exact ⟨_, rfl, q _ H1 s ⟨_, .int _, k⟩⟩
    | bl => cases e; exact ⟨_, rfl, q _ H1 s ⟨_, .int _, k⟩⟩
    | _ => cases e⟩
end
end Vc

set_option Elab.async false
set_option linter.all false
set_option maxRecDepth 100000
set_option maxHeartbeats 4000000
/-! == and != of a list or tuple of anything and the empty one. -/
namespace Vc
open PySem PySem.Spec PyProof.Rows L2 PySem.W Lh
def rEqZ (K : Frag) (n : Bool) : R2 := fun x y H Q => ∃ a b xs, x = .ref a ∧ y = .ref b ∧ ((SqT K H a xs ∧ SqT K H b []) ∨ (SqL K H a xs ∧ SqL K H b [])) ∧ Q (.bl (n.xor (decide (xs.length = 0)))) H
theorem z_len {xs : List V} {its : List Value} (rv : Vals xs its) : (decide (xs.length = 0)) = (its.toArray.size == 0) := by
  rw [rv.length, List.size_toArray]
  cases its <;> rfl
theorem op_eqZ {X : Cx} (hu : X.A.units + 64 < cLine) : OpR X (compareOp .Eq) (rEqZ X.K false) := by
  intro pins s σ H x y v u Q I rx ry h
  obtain ⟨a, b, xs, rfl, rfl, h, q⟩ := h
  cases rx
  cases ry
  rcases h with ⟨ha, hb⟩ | ⟨ha, hb⟩
  · obtain ⟨its, rv, p, _⟩ := I.tuple ha
    obtain ⟨its2, rv2, p2, _⟩ := I.tuple hb
    cases rv2
    refine SeqAt.eq_tupleAt (e := fun _ => true) (show s.heap.IsTuple a its.toArray from p) (show s.heap.IsTuple b ([] : List Value).toArray from p2) (by omega) (fun j h1 h2 => absurd h2 (by simp)) ⟨.bl _, H, I, ?_, q⟩
    show Value.bool _ = Value.bool _
    rw [z_len rv]
    simp
  · obtain ⟨its, rv, ⟨n, o, p, h1, _, h3⟩, _⟩ := I.list ha
    obtain ⟨its2, rv2, ⟨n2, o2, p2, g1, _, g3⟩, _⟩ := I.list hb
    cases rv2
    by_cases e : its.toArray.size = 0
    · refine SeqAt.eq_listAt (e := fun _ => true) (show s.heap.IsList a its.toArray from ⟨n, p, h1, o, h3⟩) (show s.heap.IsList b ([] : List Value).toArray from ⟨n2, p2, g1, o2, g3⟩) e (by omega) (fun j h1 h2 => absurd h2 (by simp)) ⟨.bl _, H, I, ?_, q⟩
      show Value.bool _ = Value.bool _
      rw [z_len rv, e]
      simp
    · refine SeqAt.eq_list_lengthsAt (show s.heap.IsList a its.toArray from ⟨n, p, h1, o, h3⟩) (show s.heap.IsList b ([] : List Value).toArray from ⟨n2, p2, g1, o2, g3⟩) (by simpa using e) (by omega) ⟨.bl _, H, I, ?_, q⟩
      show Value.bool _ = Value.bool _
      rw [z_len rv, show (its.toArray.size == 0) = false from beq_eq_false_iff_ne.mpr e]
      rfl
theorem op_neZ {X : Cx} (hu : X.A.units + 64 < cLine) : OpR X (compareOp .NotEq) (rEqZ X.K true) := by
  intro pins s σ H x y v u Q I rx ry h
  obtain ⟨a, b, xs, rfl, rfl, h, q⟩ := h
  cases rx
  cases ry
  rcases h with ⟨ha, hb⟩ | ⟨ha, hb⟩
  · obtain ⟨its, rv, p, _⟩ := I.tuple ha
    obtain ⟨its2, rv2, p2, _⟩ := I.tuple hb
    cases rv2
    refine SeqAt.RcNeAt.tuples (e := fun _ => true) (show s.heap.IsTuple a its.toArray from p) (show s.heap.IsTuple b ([] : List Value).toArray from p2) (by omega) (fun j h1 h2 => absurd h2 (by simp)) _ _ _ _ ⟨.bl _, H, I, ?_, q⟩
    show Value.bool _ = Value.bool _
    rw [z_len rv]
    simp
  · obtain ⟨its, rv, ⟨n, o, p, h1, _, h3⟩, _⟩ := I.list ha
    obtain ⟨its2, rv2, ⟨n2, o2, p2, g1, _, g3⟩, _⟩ := I.list hb
    cases rv2
    by_cases e : its.toArray.size = 0
    · refine SeqAt.RcNeAt.lists (e := fun _ => true) (show s.heap.IsList a its.toArray from ⟨n, p, h1, o, h3⟩) (show s.heap.IsList b ([] : List Value).toArray from ⟨n2, p2, g1, o2, g3⟩) e (by omega) (fun j h1 h2 => absurd h2 (by simp)) _ _ _ _ ⟨.bl _, H, I, ?_, q⟩
      show Value.bool _ = Value.bool _
      rw [z_len rv, e]
      simp
    · refine SeqAt.RcNeAt.lists_lengths (show s.heap.IsList a its.toArray from ⟨n, p, h1, o, h3⟩) (show s.heap.IsList b ([] : List Value).toArray from ⟨n2, p2, g1, o2, g3⟩) (by simpa using e) (by omega) _ _ _ _ ⟨.bl _, H, I, ?_, q⟩
      show Value.bool _ = Value.bool _
      rw [z_len rv, show (its.toArray.size == 0) = false from beq_eq_false_iff_ne.mpr e]
      rfl
theorem k_eqZ {X : Cx} (K : Frag) (hu : X.A.units + 64 < cLine) (hK : X.K = K := by rfl) : OpR X (compareOp .Eq) (rEqZ K false) := hK ▸ op_eqZ hu
theorem k_neZ {X : Cx} (K : Frag) (hu : X.A.units + 64 < cLine) (hK : X.K = K := by rfl) : OpR X (compareOp .NotEq) (rEqZ K true) := hK ▸ op_neZ hu
def gEqZ (n : Bool) : PyData → PyData → (PyData → Prop) → Prop := fun x y Q => match x, y with
  | .tuple xs, .tuple [] => Q (.bool (n.xor (decide (xs.length = 0))))
  | .list xs, .list [] => Q (.bool (n.xor (decide (xs.length = 0))))
  | _, _ => False
theorem opd_eqZ {S : Stt} {K : Frag} {n : Bool} : OpD S (rEqZ K n) (gEqZ n) := fun {m Γ σ H x y dx dy Q R} ok E ox oy k q => by
  unfold gEqZ at k
  split at k
  · obtain ⟨a, xs, rfl, h1, h2, h3⟩ := Dq.tuple ox
    obtain ⟨b, ys, rfl, g1, g2, g3⟩ := Dq.tuple oy
    cases g3
    exact ⟨a, b, xs, rfl, rfl, .inl ⟨.inl h1, .inl g1⟩, q _ H _ Stp.refl (by rw [h3.length]; exact .bl _) k⟩
  · obtain ⟨a, xs, rfl, h1, h2, h3⟩ := Dq.list ox
    obtain ⟨b, ys, rfl, g1, g2, g3⟩ := Dq.list oy
    cases g3
    exact ⟨a, b, xs, rfl, rfl, .inr ⟨.inl (.inl h1), .inl (.inl g1)⟩, q _ H _ Stp.refl (by rw [h3.length]; exact .bl _) k⟩
  · exact k.elim
end Vc

set_option Elab.async false
set_option linter.all false
namespace Vc
open PySem PySem.Spec PyProof.Rows L2 PySem.W Lh
/-- what the law's own def asks, the script's length known -/
def lawWS (K : Frag) (N : Nat) (s : AS) : Prop := ∀ n, n ≤ 63 → s { nx := fun _ => False, rt := fun d => d = .bool true } (.s K n :: .st :: List.replicate (N - 2) .no)
end Vc

set_option Elab.async false
set_option linter.all false
set_option maxRecDepth 100000
set_option maxHeartbeats 4000000
/-! The law's own def of family A, the script's length known. -/
namespace Vc
open PySem PySem.Spec PyProof.Rows L2 PySem.W Lh
section
variable {P : Program} {w : World} {K : Frag} {mg : Str → Option Value} {base : Heap}
theorem law_okAS {cs : List (Addr × PyData)} {st : Stmt} {f fB : Addr} {fd fdB : FuncData} {N : List Str} {k c0 : Nat} {s : AS} {ts : TS} {rest : List Stmt}
    (F : Fun K "law" "law" st f fd) (Sc : FnScope N ["script"] (defScope st)) (G : FnOk P w K mg base CX0 1 fB fdB ["script"] (sp_begun K))
    (hgB : mg "_law_begun" = some (.ref fB)) (hkB : PySem.W.keepIn K (.ref fB) = true) (hbB : Binds K fdB ["script"] [])
    (hN1 : N[1]? = some ("state" : Str) := by rfl)
    (hpe : ∀ (cdv : Value) (A : Around) (outer : List Env) (s0 : Shared) (H : Hp) (E : XK) (ts : TS), Room k (A.deeper (envOfC "law" (defScope st) s0.heap.objs.size f cdv)) → PSs (cxOf CX0 P w K mg base N "law" (defScope st) f cdv A outer s0 H E).nox rest ts →
      PSs (cxOf CX0 P w K mg base N "law" (defScope st) f cdv A outer s0 H E).nox (defBody st) (tSeq (tAsg (tCall (sp_begun K) [] (fun _ _ _ => False) (tCons (tVar 0) tNil)) (gName 1)) ts))
    (hb : ∀ (S : Stt), ΦA cs S → ∀ (cdv : Value) (A : Around) (outer : List Env) (s0 : Shared) (H : Hp) (E : XK), Room k (A.deeper (envOfC "law" (defScope st) s0.heap.objs.size f cdv)) →
      PVss (cxOf CX0 P w K mg base N "law" (defScope st) f cdv A outer s0 H E).nox S false c0 rest ts s) (hc : c0 ≤ capA) (hw : lawWS K N.length s) :
    FnOk P w K mg base CX0 (k + 1) f fd ["script"] (spLaw K cs) := by
  refine F.ok Sc (fun vs H Q E h => ?_) (fun cdv A outer s0 H vs Q E hr h => ?_)
  · obtain ⟨a, ns, rfl, _⟩ := h
    rfl
  · obtain ⟨a, ns, rfl, hS, hl, hcs, q⟩ := h
    have B0 := hb (sttA cs 0 0 0) ⟨0, 0, 0, rfl⟩ cdv A outer s0 H E hr
    refine ⟨_, hpe cdv A outer s0 H E ts hr B0.pe, ?_⟩
    obtain ⟨n', hn'⟩ : ∃ n', N.length = n' + 2 := ⟨N.length - 2, by
      have := (List.getElem?_eq_some_iff.mp hN1).1
      omega⟩
    refine ⟨.ref a, by unfold L2.start; simp, a, ns, rfl, hS, hl, fun p g c H1 kp hp hg hc1 hI => ?_⟩
    have B := hb (sttA cs p g c) ⟨p, g, c, rfl⟩ cdv A outer s0 H E hr
    have ok0 : Ok (sttA cs p g c) (mSt (sttA cs p g c) c0 (Sm p g c) H1) := ⟨rfl, rfl, ⟨c0, hc, rfl⟩, carried_in⟩
    have ht : ∀ a, Sm p g c a → Tk (H1 a) := fun a h => hI.trk h
    have E0 : Env (mSt (sttA cs p g c) c0 (Sm p g c) H1) (c0 + 0) (some (.im (isLen K ns.length)) :: some (Vl (.ref p)) :: List.replicate n' none) (some (.ref a) :: some (.ref p) :: List.replicate n' none) H1 := by
      refine ⟨⟨0, by show 0 + (c0 + 0) ≤ c0; omega, hI⟩, fun _ _ h _ => h, fun _ h => h, ht, fun x hx => ?_, by simp, fun i g' e => ?_⟩
      · obtain ⟨cc, h, rfl⟩ := List.mem_map.mp hx
        refine (hcs cc h).to fun b o e _ => ⟨kp b o e, fun z => ?_⟩
        rcases z with z | z | z
        · rw [z, hp] at e; cases e
        · rw [z, hg] at e; cases e
        · rw [z, hc1] at e; cases e
      · match i, e with
        | 0, e =>
          cases e
          refine ⟨_, rfl, a, _, rfl, List.length_map .., hS.imp (fun r => ?_) id⟩
          have st : ∀ u, H a = some u → H1 a = some u ∧ ¬ Sm p g c a := fun u e => ⟨kp a u e, fun z => by
            rcases z with z | z | z
            · rw [z, hp] at e; cases e
            · rw [z, hg] at e; cases e
            · rw [z, hc1] at e; cases e⟩
          rcases r with r | ⟨o, r⟩
          · exact ⟨.inl (st _ r).1, (st _ r).2⟩
          · exact ⟨.inr ⟨o, (st _ r).1⟩, (st _ r).2⟩
        | 1, e => cases e; exact ⟨_, rfl, rfl⟩
        | i + 2, e =>
          rw [List.getElem?_cons_succ, List.getElem?_cons_succ, List.getElem?_replicate] at e
          split at e <;> cases e
    have mt : Mt p (.s K ns.length :: .st :: List.replicate (N.length - 2) .no) (some (.im (isLen K ns.length)) :: some (Vl (.ref p)) :: List.replicate n' none) := by
      refine ⟨by simp; omega, fun i x e => ?_⟩
      match i, e with
      | 0, e => cases e; exact ⟨_, rfl, .s _ _⟩
      | 1, e => cases e; exact ⟨_, rfl, .st⟩
      | i + 2, e =>
        rw [List.getElem?_cons_succ, List.getElem?_cons_succ, List.getElem?_replicate] at e
        rw [List.getElem?_cons_succ, List.getElem?_cons_succ, List.getElem?_replicate]
        split at e
        · rename_i h
          cases e
          exact ⟨none, if_pos (by omega), .no⟩
        · cases e
    have dis : Dis (some (.im (isLen K ns.length)) :: some (Vl (.ref p)) :: List.replicate n' none) := fun i j q b b' e _ => by
      match i, e with
      | 0, e => cases e
      | 1, e => cases e
      | i + 2, e =>
        rw [List.getElem?_cons_succ, List.getElem?_cons_succ, List.getElem?_replicate] at e
        split at e <;> cases e
    have R0 : Rep (sttA cs p g c) ⟨H1, Sm p g c, [], c0, ht⟩ (c0 + 0) (.s K ns.length :: .st :: List.replicate (N.length - 2) .no) (some (.ref a) :: some (.ref p) :: List.replicate n' none) H1 := ⟨mSt (sttA cs p g c) c0 (Sm p g c) H1, _, ⟨rfl, ok0, rfl, fun _ h => h, fun x h => absurd h (by simp)⟩, mt, dis, E0⟩
    have e0 : (L2.start N [.ref a]).set 1 (some (.ref p)) = some (.ref a) :: some (.ref p) :: List.replicate n' none := by
      unfold L2.start
      simp [hn', List.replicate_succ]
    show ts _ ((L2.start N [.ref a]).set 1 (some (.ref p))) H1
    rw [e0]
    refine B.ev ⟨H1, Sm p g c, [], c0, ht⟩ _ { nx := fun _ => False, rt := fun d => d = .bool true } _ _ H1 0 ⟨fun a σ H' _ k => k.elim, fun v H' d r e => ?_, fun a σ H' _ k => k.elim, fun a σ H' _ k => k.elim⟩ R0 (hw _ hl)
    subst e
    obtain ⟨m, Γ, σ, f, E', r⟩ := r
    rcases r with ⟨_, o⟩ | ⟨z, _⟩
    · cases o
      exact q _
    · cases z
end
end Vc

set_option Elab.async false
set_option linter.all false
set_option maxRecDepth 100000
set_option maxHeartbeats 2000000
/-! Instances of own classes as data; how they are made. -/
namespace Vc
open PySem PySem.Spec PyProof.Rows L2 PySem.W Lh

/-- an instance as a datum -/
def objD (C : Addr) (ns : List Str) (es : List PyData) : PyData := .dict [(.list (.int (Int.ofNat C) :: ns.map .str), .tuple es)]
theorem strs_inj : ∀ {xs ys : List Str}, xs.map PyData.str = ys.map PyData.str → xs = ys
  | [], [], _ => rfl
  | x :: xs, y :: ys, e => by
    injection e with e1 e2
    injection e1 with e1
    rw [e1, strs_inj e2]
  | [], _ :: _, e => by cases e
  | _ :: _, [], e => by cases e
theorem Dq.ins {A : Addr → Prop} {H : Hp} {v : V} {C : Addr} {ns : List Str} {es : List PyData} (h : Dq A H v (objD C ns es)) : ∃ a dx fs, v = .ref a ∧ H a = some (.ins C dx fs) ∧ ¬ A a ∧ fs.map Prod.fst = ns ∧ DqA A H (fs.map Prod.snd) es := by
  unfold objD at h
  generalize hd : PyData.list (.int (Int.ofNat C) :: ns.map .str) = d at h
  cases h with
  | dct h1 h2 h3 h4 =>
    rename_i a kvs
    exfalso
    cases kvs with
    | nil => cases h3
    | cons kv r =>
      cases h3 with
      | cons h3 _ =>
        rcases kv with ⟨k, v⟩
        rcases k with i | x
        · have h3 : Dq A H (.int i) d := h3
          rw [← hd] at h3
          cases h3
        · have h3 : Dq A H (.str x) d := h3
          rw [← hd] at h3
          cases h3
  | obj h1 h2 h3 h4 =>
    rename_i a dx C' fs ns'
    injection hd with hd
    injection hd with e1 e2
    injection e1 with e1
    have e1 : C = C' := by injection e1
    subst e1
    refine ⟨a, dx, fs, rfl, h1, h2, ?_, h4⟩
    refine strs_inj ?_
    rw [List.map_map, e2, ← h3]
    rfl
theorem Dq.ofI {A : Addr → Prop} {H : Hp} {a C dx : Addr} {fs : List (Str × V)} {ns : List Str} {es : List PyData} (h : H a = some (.ins C dx fs)) (n : ¬ A a) (e : fs.map Prod.fst = ns) (k : DqA A H (fs.map Prod.snd) es) : Dq A H (.ref a) (objD C ns es) :=
  .obj h n (by rw [← e, List.map_map]; rfl) k
theorem look_fs {A : Addr → Prop} {H : Hp} {f : Str} {d : PyData} : ∀ {fs : List (Str × V)} {ns : List Str} {es : List PyData}, fs.map Prod.fst = ns → DqA A H (fs.map Prod.snd) es → (ns.zip es).lookup f = some d → ∃ v, fs.lookup f = some v ∧ Dq A H v d
  | [], ns, es, e, _, l => by
    rw [← e] at l
    cases l
  | (g, v) :: fs, ns, es, e, k, l => by
    rw [← e] at l
    cases k with
    | cons k1 k2 =>
      rename_i d1 es
      rw [List.map_cons, List.zip_cons_cons, List.lookup_cons] at l
      rw [List.lookup_cons]
      cases hb : f == g with
      | true =>
        have l : (match f == g with | true => some d1 | false => _) = some d := l
        rw [hb] at l
        cases l
        exact ⟨v, rfl, k1⟩
      | false =>
        have l : (match f == g with | true => some d1 | false => List.lookup f ((fs.map Prod.fst).zip es)) = some d := l
        rw [hb] at l
        exact look_fs rfl k2 l
theorem look_no {f : Str} : ∀ {fs : List (Str × V)} {ns : List Str}, fs.map Prod.fst = ns → ns.contains f = false → fs.lookup f = none
  | [], _, _, _ => rfl
  | (g, v) :: fs, ns, e, h => by
    subst e
    rw [List.map_cons, List.contains_cons, Bool.or_eq_false_iff] at h
    rw [List.lookup_cons, h.1]
    exact look_no rfl h.2
theorem putF_new {f : Str} {v : V} : ∀ {fs : List (Str × V)} {ns : List Str}, fs.map Prod.fst = ns → ns.contains f = false → putF f v fs = fs ++ [(f, v)]
  | [], _, _, _ => rfl
  | (g, u) :: fs, ns, e, h => by
    subst e
    rw [List.map_cons, List.contains_cons, Bool.or_eq_false_iff] at h
    have hn : ¬ g = f := fun z => by
      have h1 := h.1
      simp only [z, beq_self_eq_true] at h1
      exact Bool.noConfusion h1
    unfold putF
    rw [if_neg hn, putF_new rfl h.2]
    rfl
/-- x.f -/
def aFld (C : Addr) (ns : List Str) (f : Str) (fe : AE) : AE := fun a Q => fe a fun x => ∃ es d, x = objD C ns es ∧ (ns.zip es).lookup f = some d ∧ Q d
/-- x.m(..) -/
def aMeth (C : Addr) (ns : List Str) (W : List PyData → (PyData → Prop) → Prop) (fe : AE) (aa : AN) : AE := fun a Q => fe a fun x => ∃ es, x = objD C ns es ∧ aa a fun ds => W (x :: ds) Q
def aMethN (C : Addr) (ns : List Str) (W : List PyData → (PyData → Prop) → Prop) (fe : AE) (aa : AN) : AN := fun a Q => fe a fun x => ∃ es, x = objD C ns es ∧ aa a fun ds => W (x :: ds) fun d => match d with
  | .list es => Q es
  | _ => False
/-- isinstance(x, C) of what is one -/
def aIsC (C : Addr) (ns : List Str) (fe : AE) : AE := fun a Q => fe a fun x => ∃ es, x = objD C ns es ∧ Q (.bool true)
/-- C(..) -/
def aMake (C : Addr) (ns : List Str) (W : List PyData → (List PyData → Prop) → Prop) (aa : AN) : AE := fun a Q => aa a fun ds => W ds fun es => Q (objD C ns es)
/-- a def that makes an instance: its first argument is the instance, still without fields -/
def spI (cs : List (Addr × PyData)) (C : Addr) (ns : List Str) (W : List PyData → (List PyData → Prop) → Prop) : Sp := fun vs H Q _ => ∃ (A : Addr → Prop) (x dx : Addr) (us : List V) (ds : List PyData) (P : List PyData → Prop), vs = .ref x :: us ∧ H x = some (.ins C dx []) ∧ ¬ A x ∧ DqA (fun a => A a ∨ a = x) H us ds ∧ (∀ a, A a → Tk (H a)) ∧ (∀ c ∈ cs, Dq (fun a => A a ∨ a = x) H (.ref c.1) c.2) ∧ W ds P ∧
  ∀ dx fs es H', (∀ a o, a ≠ x → H a = some o → H' a = some o) → H' x = some (.ins C dx fs) → fs.map Prod.fst = ns → DqA (fun a => A a ∨ a = x) H' (fs.map Prod.snd) es → P es → Q .non H'
section
variable {S : Stt} {te : TE} {fe : AE} {ta : TA} {aa : AN} {K : Frag} {C : Addr} {ns : List Str} {f : Str} {n : Option Nat} {Ex : XK}
theorem evw_fld (c : Cls K C) (hn : NoAttr K C f) (h : EvW S c_te te fe) : EvW S c_te (tFld K te f) (aFld C ns f fe) := fun m Γ a Q ok mt hh σ H E R q =>
  h m Γ a _ ok mt hh σ H E.le _ fun v H1 s ⟨x, o, es, d, e, l, k⟩ => by
    subst e
    obtain ⟨b, dx, fs, rfl, hb, _, hf, hd⟩ := Dq.ins o
    obtain ⟨u, hu, ou⟩ := look_fs hf hd l
    exact ⟨b, C, dx, fs, u, rfl, hb, c, hn, hu, q u H1 s ⟨d, ou, k⟩⟩
theorem evw_meth {W : List PyData → (PyData → Prop) → Prop} (hm : ns.contains f = false) (h : EvW S c_te te fe) (ha : EvAs S c_ta n ta aa) : EvW S (c_te + c_ta) (tMeth C f (spW S.cs false W) [] Ex te ta) (aMeth C ns W fe aa) := fun m Γ a Q ok mt hh σ H E R q =>
  h m Γ a _ ok mt hh σ H E.le _ fun v H1 s ⟨x, o, es, e, k⟩ => by
    subst e
    obtain ⟨b, dx, fs, rfl, hb, _, hf, hd⟩ := Dq.ins o
    have E1 : Env m c_ta Γ σ H1 := E.step s
    exact ⟨b, dx, fs, rfl, hb, look_no hf hm, ha m Γ a _ ok mt k σ H1 E1 _ fun vs ds H2 _ s2 o2 k2 =>
      ⟨m.A, _ :: ds, Q, .cons (o.to (s2.to E.sub)) (by rw [List.append_nil]; exact o2), (E1.step (r := 0) s2).trk, fun c hc => (E1.step (r := 0) s2).ex _ (ok.cs c hc), k2, fun v d H3 kp r p => by
        rcases r with ⟨_, r⟩ | ⟨z, _⟩
        · exact q v H3 ((s.trans s2).trans (Stp.ext kp)).le ⟨d, r, p⟩
        · cases z⟩⟩
theorem evn_meth {W : List PyData → (PyData → Prop) → Prop} (hm : ns.contains f = false) (h : EvW S c_te te fe) (ha : EvAs S c_ta n ta aa) : EvN S (c_te + c_ta) (tMeth C f (spW S.cs true W) [] Ex te ta) (aMethN C ns W fe aa) := fun m Γ a Q ok mt hh σ H E R q =>
  h m Γ a _ ok mt hh σ H E.le _ fun v H1 s ⟨x, o, es, e, k⟩ => by
    subst e
    obtain ⟨b, dx, fs, rfl, hb, _, hf, hd⟩ := Dq.ins o
    have E1 : Env m c_ta Γ σ H1 := E.step s
    exact ⟨b, dx, fs, rfl, hb, look_no hf hm, ha m Γ a _ ok mt k σ H1 E1 _ fun vs ds H2 _ s2 o2 k2 =>
      ⟨m.A, _ :: ds, _, .cons (o.to (s2.to E.sub)) (by rw [List.append_nil]; exact o2), (E1.step (r := 0) s2).trk, fun c hc => (E1.step (r := 0) s2).ex _ (ok.cs c hc), k2, fun v d H3 kp r p => by
        rcases r with ⟨z, _⟩ | ⟨_, b, xs, es, rfl, rfl, hn, hp, r⟩
        · cases z
        · exact q b xs es H3 ((s.trans s2).trans (Stp.ext kp)).le (Vc.Env.back E (s.trans s2).le hn) hp r p⟩⟩
theorem evw_isC (h : EvW S c_te te fe) : EvW S c_te (tCB (fun xs H Q => ∃ a dx fs, xs = [.ref a, .ref C] ∧ H a = some (.ins C dx fs) ∧ Q (.bl true) H) (tCons te (tCons (tC (.ref C)) tNil))) (aIsC C ns fe) := fun m Γ a Q ok mt hh σ H E R q =>
  h m Γ a _ ok mt hh σ H E.le _ fun v H1 s ⟨x, o, es, e, k⟩ => by
    subst e
    obtain ⟨b, dx, fs, rfl, hb, _, hf, hd⟩ := Dq.ins o
    exact ⟨b, dx, fs, rfl, hb, q _ H1 s ⟨_, .bl true, k⟩⟩
theorem evw_make {W : List PyData → (List PyData → Prop) → Prop} (ha : EvAs S c_ta n ta aa) : EvW S c_ta (tMake C (spI S.cs C ns W) [] Ex ta) (aMake C ns W aa) := fun m Γ a Q ok mt hh σ H E R q =>
  ha m Γ a _ ok mt hh σ H E.le _ fun vs ds H1 _ s o k => fun x dx hx hdx hne => by
    have E1 : Env m 0 Γ σ H1 := E.step s
    have k12 : ∀ a u, H1 a = some u → (upd (upd H1 dx (.own x)) x (.ins C dx [])) a = some u := fun a u e => by
      rw [upd_ne (ne_of_none e hx), upd_ne (ne_of_none e hdx)]
      exact e
    have nx : ¬ m.A x := Env.free E1 hx
    have t2 : To m.A H1 (fun a => m.A a ∨ a = x) (upd (upd H1 dx (.own x)) x (.ins C dx [])) := fun a u e n => ⟨k12 a u e, fun z => z.elim n (ne_of_none e hx)⟩
    refine ⟨m.A, x, dx, vs, ds, _, by rw [List.append_nil], upd_same, nx, o.to t2, fun a ha => ?_, fun c hc => ((isD c.2).mono t2 (E1.ex _ (ok.cs c hc))), k, fun dx' fs es H3 kp h3 hf hd p => ⟨rfl, ?_⟩⟩
    · have h1 := E1.trk a ha
      cases e : H1 a with
      | none => exact absurd e h1.1
      | some u => rw [k12 a u e, ← e]; exact h1
    · refine q (.ref x) H3 (s.trans (Stp.ext fun a u e => ?_)).le ⟨objD C ns es, Dq.ofI h3 nx hf (hd.to fun a u e n => ⟨e, fun z => n (.inl z)⟩), p⟩
      exact kp a u (ne_of_none e hx) (k12 a u e)
end
section
variable {X : Cx} {S : Stt} {κ : Bool} {e : Expr} {es : List Expr} {te : TE} {fe : AE} {ta : TA} {aa : AN} {C g : Addr} {ns : List Str} {f : Str} {n : Option Nat} {Ex : XK} {pos apos p p1 : Pos} {CX : CXT} {k : Nat} {fd : FuncData} {ps : List Str} {x y : Str} {W : List PyData → (PyData → Prop) → Prop} {Wi : List PyData → (List PyData → Prop) → Prop}
theorem e_fld (K : Frag) (c : Cls K C) (hn : NoAttr K C f) (h : PV X S c_te e te fe) (hb : attributeBase e f X.env (eval e X.env) = eval e X.env := by rfl) (hK : X.K = K := by rfl) : PV X S c_te (.Attribute e f pos) (tFld K te f) (aFld C ns f fe) := by
  subst hK
  exact ⟨pe_fld h.pe hb, evw_fld c hn h.ev⟩
theorem e_meth {cs : List (Addr × PyData)} {pl : Sem Bool} (hS : S.cs = cs) (K : Frag) (c : Cls K C) (hm : Meth K C f g) (F : FnOk X.prog X.w X.K X.mg X.base CX k g fd ps (spW cs false W)) (hr : Room k X.A) (hb : Binds X.K fd ps []) (hx : Passes CX X Ex) (h : PV X S c_te e te fe) (ha : PVA X S c_ta n (e2 :: es) ta aa)
    (hc : ns.contains f = false := by decide) (hK : X.K = K := by rfl) (hst : starEach (e2 :: es) X.env = (false, eval e2 X.env) :: starEach es X.env := by rfl) (hpl : (backTo pos (starEach es X.env)).any (·.1) = false := by rfl)
    (ht : eval (.Call (.Attribute e f apos) (e2 :: es) [] pos) X.env = (do
      let ov ← eval e X.env
      standAt apos.atName
      let (f, first) ← holding [ov] (getMethod ov f pl)
      callWith pos f first (backTo pos (starEach (e2 :: es) X.env)) (backToKw pos (keywordEach [] X.env))) := by rfl) :
    PV X S (c_te + c_ta) (.Call (.Attribute e f apos) (e2 :: es) [] pos) (tMeth C f (spW cs false W) [] Ex te ta) (aMeth C ns W fe aa) := by
  subst hS
  subst hK
  exact ⟨pe_meth h.pe c hm F hr hb .nil hx ha.pe hst hpl ht, evw_meth hc h.ev ha.ev⟩
theorem e_meth0 {cs : List (Addr × PyData)} {pl : Sem Bool} (hS : S.cs = cs) (K : Frag) (c : Cls K C) (hm : Meth K C f g) (F : FnOk X.prog X.w X.K X.mg X.base CX k g fd ps (spW cs false W)) (hr : Room k X.A) (hb : Binds X.K fd ps []) (hx : Passes CX X Ex) (h : PV X S c_te e te fe)
    (hc : ns.contains f = false := by decide) (hK : X.K = K := by rfl)
    (ht : eval (.Call (.Attribute e f apos) [] [] pos) X.env = (do
      let ov ← eval e X.env
      standAt apos.atName
      let (f, first) ← holding [ov] (getMethod ov f pl)
      callWith pos f first (backTo pos (starEach [] X.env)) (backToKw pos (keywordEach [] X.env))) := by rfl) :
    PV X S c_te (.Call (.Attribute e f apos) [] [] pos) (tMeth C f (spW cs false W) [] Ex te tNil) (aMeth C ns W fe aNil) := by
  subst hS
  subst hK
  exact ⟨pe_meth0 h.pe c hm F hr hb .nil hx ht, evw_meth hc h.ev evas_nil⟩
theorem e_make {cs : List (Addr × PyData)} (hS : S.cs = cs) (K : Frag) (M : Mk K C g) (F : FnOk X.prog X.w X.K X.mg X.base CX k g fd ps (spI cs C ns Wi)) (hr : Room (k + 1) X.A) (hg : Gl X x) (hm : X.mg x = some (.ref C)) (hb : Binds X.K fd ps []) (hx : Passes CX X Ex)
    (ha : PVA X S c_ta n (e :: es) ta aa) (hK : X.K = K := by rfl) (hdb : (x == ("__debug__" : Str)) = false := by decide) (he : starEach (e :: es) X.env = (false, eval e X.env) :: starEach es X.env := by rfl) (hpl : (backTo pos (starEach es X.env)).any (·.1) = false := by rfl) :
    PV X S c_ta (.Call (.Name x p) (e :: es) [] pos) (tMake C (spI cs C ns Wi) [] Ex ta) (aMake C ns Wi aa) := by
  subst hS
  subst hK
  exact ⟨pe_make M F hr hg hm hb .nil hx ha.pe hdb he hpl, evw_make ha.ev⟩
theorem e_isC (K : Frag) (c : C8.InsC K C) (hm : X.mg "isinstance" = none) (hmy : X.mg y = some (.ref C)) (h : PV X S c_te e te fe) (hg : Gl X "isinstance" := by rfl) (hgy : Gl X y := by rfl) (hdy : (y == ("__debug__" : Str)) = false := by decide)
    (hs1 : starEach [.Name y p1] X.env = (false, eval (.Name y p1) X.env) :: starEach [] X.env := by rfl) (hs2 : starEach [e, .Name y p1] X.env = (false, eval e X.env) :: starEach [.Name y p1] X.env := by rfl)
    (hpl : (backTo pos (starEach [.Name y p1] X.env)).any (·.1) = false := by rfl) (hK : X.K = K := by rfl) :
    PV X S c_te (.Call (.Name "isinstance" p) [e, .Name y p1] [] pos) (tCB (fun xs H Q => ∃ a dx fs, xs = [.ref a, .ref C] ∧ H a = some (.ins C dx fs) ∧ Q (.bl true) H) (tCons te (tCons (tC (.ref C)) tNil))) (aIsC C ns fe) := by
  subst hK
  exact ⟨pe_callB (C8.call_isC c) hg hm (by decide +kernel) (pa_cons h.pe (pa_cons (pe_glob hgy hmy rfl hdy) pa_nil hs1) hs2) (by decide) (by decide) hs2 hpl, evw_isC h.ev⟩
/-- what is never reached -/
def aNever : AS := fun _ _ => False
theorem s_never {st : Stmt} : PVst X S κ 0 st (fun _ _ _ => False) aNever := ⟨⟨fun _ _ _ _ _ _ h => h.elim⟩, fun _ _ _ _ _ _ _ _ _ h => h.elim⟩
end
/-! ### in the making -/
/-- self.f = e -/
def aSetF (C : Addr) (i : Nat) (f : Str) (fe : AE) : AS := fun En a => fe a fun x => ∃ ns ds, a[i]? = some (.o C ns ds) ∧ ns.contains f = false ∧ ns.length < 1000 ∧ En.nx (a.set i (.o C (ns ++ [f]) (ds ++ [x])))
/-- self.f -/
def aFldO (C : Addr) (i : Nat) (f : Str) : AE := fun a Q => ∃ ns ds d, a[i]? = some (.o C ns ds) ∧ (ns.zip ds).lookup f = some d ∧ Q d
section
variable {S : Stt} {κ : Bool} {te : TE} {fe : AE} {K : Frag} {C : Addr} {f : Str} {i : Nat}
theorem stw_setF (c : Cls K C) (hn : NoAttr K C f) (h : EvW S c_te te fe) : StW S κ c_te (sFld K (tVar i) te f) (aSetF C i f fe) := fun F De En a σ H kr cc ⟨m, Γ, ff, mt, d, E⟩ hh =>
  h m Γ a _ ff.ok mt hh σ H E.le _ fun y H1 s ⟨x, oy, ns, ds, e, h1, h2, k⟩ => by
    have e1 := mt.o e
    have E1 : Env m kr Γ σ H1 := E.step s
    obtain ⟨v, g1, rfl, k1, k2, k3, o, k4, dx, fs, rfl, hf, k5⟩ := E1.sl i _ e1
    have hl : fs.length = ns.length := by rw [← hf, List.length_map]
    refine ⟨_, g1, S.p, C, dx, fs, rfl, k4, c, hn, by omega, cc.nx _ _ _ ?_ k⟩
    rw [putF_new hf h1]
    refine ⟨m, _, ff, mt.set (.o C (ns ++ [f]) (ds ++ [x])), d.setB (d.alone e1), E1.rebox (b' := bI C (ns ++ [f]) (ds ++ [x])) e1 (d.alone e1) ⟨dx, _, rfl, by rw [List.map_append, hf]; rfl, ?_⟩⟩
    rw [List.map_append]
    exact k5.append (.cons oy .nil)
theorem evw_fldO (c : Cls K C) (hn : NoAttr K C f) : EvW S 0 (tFld K (tVar i) f) (aFldO C i f) := fun m Γ a Q ok mt ⟨ns, ds, d, e, l, k⟩ σ H E R q => by
  obtain ⟨v, g1, rfl, k1, k2, k3, o, k4, dx, fs, rfl, hf, k5⟩ := E.sl i _ (mt.o e)
  obtain ⟨u, hu, ou⟩ := look_fs hf k5 l
  exact ⟨_, g1, S.p, C, dx, fs, u, rfl, k4, c, hn, hu, q u H Stp.refl ⟨d, ou, k⟩⟩
end
section
variable {X : Cx} {S : Stt} {κ : Bool} {e : Expr} {te : TE} {fe : AE} {C : Addr} {f x : Str} {np p1 pos : Pos}
theorem s_setF (K : Frag) (i : Nat) (c : Cls K C) (hn : NoAttr K C f) (h : PV X S c_te e te fe) (hN : X.N[i]? = some x := by rfl) (hv : Vis X.env.scope x := by first | exact Or.inl rfl | exact Or.inr (Or.inl rfl) | exact Or.inr (Or.inr rfl)) (hd : (x == ("__debug__" : Str)) = false := by decide)
    (hcd : (x == ("__classdict__" : Str)) = false := by decide) (hs : swapsWith e (some (.Attribute (.Name x np) f p1)) pos.line X.env = pure false := by rfl) (hK : X.K = K := by rfl) :
    PVst X S κ c_te (.Assign [.Attribute (.Name x np) f p1] e pos) (sFld K (tVar i) te f) (aSetF C i f fe) := by
  subst hK
  exact ⟨ps_fld (pe_var hN hv hd hcd) h.pe hs, stw_setF c hn h.ev⟩
theorem e_fldO (K : Frag) (i : Nat) (c : Cls K C) (hn : NoAttr K C f) (hN : X.N[i]? = some x := by rfl) (hv : Vis X.env.scope x := by first | exact Or.inl rfl | exact Or.inr (Or.inl rfl) | exact Or.inr (Or.inr rfl)) (hd : (x == ("__debug__" : Str)) = false := by decide)
    (hcd : (x == ("__classdict__" : Str)) = false := by decide) (hb : attributeBase (.Name x np) f X.env (eval (.Name x np) X.env) = eval (.Name x np) X.env := by rfl) (hK : X.K = K := by rfl) : PV X S 0 (.Attribute (.Name x np) f pos) (tFld K (tVar i) f) (aFldO C i f) := by
  subst hK
  exact ⟨pe_fld (pe_var hN hv hd hcd) hb, evw_fldO c hn⟩
end
/-! ### the def that makes -/
def Stt.at_ (p : Addr) (cs : List (Addr × PyData)) : Stt := { Stt.nul cs with p := p }
/-- the heap without what is at x -/
def lack (x : Addr) (H : Hp) : Hp := fun a => if a = x then none else H a
theorem lack_of {x a : Addr} {H : Hp} {o : HO} (h : lack x H a = some o) : a ≠ x ∧ H a = some o := by
  unfold lack at h
  split at h
  · cases h
  · rename_i n
    exact ⟨n, h⟩
theorem lack_ne {x a : Addr} {H : Hp} (h : a ≠ x) : lack x H a = H a := if_neg h
/-- what a def that makes asks -/
def fnWI (C : Addr) (ns : List Str) (n N : Nat) (s : AS) : List PyData → (List PyData → Prop) → Prop := fun ds Q => ds.length = n ∧ s { nx := fun a => ∃ es, a[0]? = some (.o C ns es) ∧ Q es, rt := fun _ => False } (.o C [] [] :: (ds.map .d ++ List.replicate (N - (n + 1)) .no))
section
variable {P : Program} {w : World} {K : Frag} {mg : Str → Option Value} {base : Heap}
theorem fn_okI {x qual : Str} {st : Stmt} {f C : Addr} {ns : List Str} {fd : FuncData} {N ps : List Str} {k n : Nat} {s : AS} {ts : TS} {cs : List (Addr × PyData)} (F : L2.Fun K x qual st f fd) (Sc : FnScope N ps (defScope st)) (hn : ps.length = n + 1)
    (hb : ∀ (q : Addr) (cdv : Value) (A : Around) (outer : List Env) (s0 : Shared) (H : Hp) (E : XK), Room k (A.deeper (envOfC qual (defScope st) s0.heap.objs.size f cdv)) →
      PVss (cxOf CX0 P w K mg base N qual (defScope st) f cdv A outer s0 H E).nox (Stt.at_ q cs) false 0 (defBody st) ts s) :
    FnOk P w K mg base CX0 (k + 1) f fd ps (spI cs C ns (fnWI C ns n N.length s)) := by
  refine F.ok Sc (fun vs H Q E h => ?_) (fun cdv A outer s0 H vs Q E hr h => ?_)
  · obtain ⟨A, q, dx, us, ds, P, rfl, _, _, hd, _, _, ⟨hl, _⟩, _⟩ := h
    rw [List.length_cons, hd.length, hl, hn]
  · obtain ⟨A', q, dx, us, ds, P, rfl, hq, nq, hd, ht, hcs, ⟨hl, hw⟩, qq⟩ := h
    have B := hb q cdv A outer s0 H E hr
    refine ⟨ts, B.pe, ?_⟩
    rw [← hl] at hw
    have ht2 : ∀ a, A' a ∨ a = q → Tk (H a) := fun a z => z.elim (ht a) fun z => by rw [z, hq]; exact Tk.ins
    have E0 : Env (mSt (Stt.at_ q cs) 0 (fun a => A' a ∨ a = q) H) 0 (startS N.length q ds) (L2.start N (.ref q :: us)) H := env_st (S := Stt.at_ q cs) (N := N) hd ht2 (fun _ h => h.elim) hcs (n := 0) (k := 0) (B := 0) (Nat.le_refl _) trivial
    let m1 : Md := { mSt (Stt.at_ q cs) 0 (fun a => A' a ∨ a = q) H with H0 := lack q H }
    have E1 : Env m1 0 (startS N.length q ds) (L2.start N (.ref q :: us)) H := by
      refine ⟨E0.inv, fun a o e _ => (lack_of e).2, E0.sub, E0.trk, E0.ex, E0.len, fun i g e => ?_⟩
      obtain ⟨v, h1, h2⟩ := E0.sl i g e
      refine ⟨v, h1, ?_⟩
      cases g with
      | im _ => exact h2
      | box p b =>
        exfalso
        unfold startS at e
        cases i with
        | zero => cases e
        | succ i =>
          rw [List.getElem?_cons_succ] at e
          by_cases hi : i < ds.length
          · rw [List.getElem?_append_left (by rw [List.length_map]; exact hi), List.getElem?_map, List.getElem?_eq_getElem hi] at e
            cases e
          · rw [List.getElem?_append_right (by rw [List.length_map]; omega), List.getElem?_replicate] at e
            split at e <;> cases e
    have E2 := E1.set (i := 0) (v := .ref q) (g := .box q (bI C [] [])) ⟨rfl, .inr rfl, fun z => z, by show lack q H q = none; exact if_pos rfl, _, hq, dx, [], rfl, rfl, .nil⟩
    have e0 : (L2.start N (.ref q :: us)).set 0 (some (V.ref q)) = L2.start N (.ref q :: us) := by
      unfold L2.start
      rfl
    rw [e0] at E2
    have ht3 : ∀ a, A' a → Tk (lack q H a) := fun a z => by
      have na : a ≠ q := fun y => nq (by rw [← y]; exact z)
      rw [lack_ne na]
      exact ht a z
    have mt2 : Mt q (.o C [] [] :: (ds.map .d ++ List.replicate (N.length - (ds.length + 1)) .no)) ((startS N.length q ds).set 0 (some (.box q (bI C [] [])))) := (mt_startS (p := q) (N := N.length) (ds := ds)).set (i := 0) (.o C [] [])
    have nb : NoBox q ((startS N.length q ds).set 0 none) := fun j p b e z => by
      cases j with
      | zero => 
        unfold startS at e
        cases e
      | succ j =>
        rw [List.getElem?_set_ne (by omega)] at e
        have := dis_startS (j + 1) (j + 1) p b b e e
        unfold startS at e
        rw [List.getElem?_cons_succ] at e
        by_cases hi : j < ds.length
        · rw [List.getElem?_append_left (by rw [List.length_map]; exact hi), List.getElem?_map, List.getElem?_eq_getElem hi] at e
          cases e
        · rw [List.getElem?_append_right (by rw [List.length_map]; omega), List.getElem?_replicate] at e
          split at e <;> cases e
    have ok0 : Ok (Stt.at_ q cs) m1 := ⟨rfl, rfl, ⟨0, Nat.le_refl _, rfl⟩, carried_in⟩
    have R0 : Rep (Stt.at_ q cs) ⟨lack q H, A', [], 0, ht3⟩ (0 + 0) (.o C [] [] :: (ds.map .d ++ List.replicate (N.length - (ds.length + 1)) .no)) (L2.start N (.ref q :: us)) H := ⟨m1, _, ⟨rfl, ok0, rfl, fun _ h => .inl h, fun x h => absurd h (by simp)⟩, mt2, Dis.setB dis_startS nb, E2⟩
    refine B.ev ⟨lack q H, A', [], 0, ht3⟩ _ { nx := fun a => ∃ es, a[0]? = some (.o C ns es) ∧ P es, rt := fun _ => False } _ _ H 0 ⟨fun a σ H' ⟨m, Γ, f, mt, d, E'⟩ ⟨es, e, k⟩ => ?_, fun v H' d _ k => k.elim, fun a σ H' _ k => k.elim, fun a σ H' _ k => k.elim⟩ R0 hw
    obtain ⟨v, g1, rfl, k1, k2, k3, o, k4, dx', fs, rfl, hf, k5⟩ := E'.sl 0 _ (mt.o e)
    have fr : ∀ a o, a ≠ q → H a = some o → H' a = some o := fun a o na h => E'.fr a o (by rw [f.hH]; show lack q H a = some o; rw [lack_ne na]; exact h) (by rw [f.ok.hM]; exact fun z => z)
    refine qq dx' fs es H' fr k4 hf (k5.to fun a o h n => ⟨h, fun z => n (z.elim (f.sub a) fun z => by rw [z]; exact k1)⟩) k
end
end Vc

set_option Elab.async false
set_option linter.all false
set_option maxRecDepth 100000
set_option maxHeartbeats 4000000
/-! set(xs) of a list of unlike texts, and how many it has. -/
namespace Lh
open PySem PySem.Spec PyProof.Rows L2 PySem.W
section
variable {P : Program} {w : World} {A : Around} {E : Value → Shared → Prop} {s : Shared}
/-- what the set has after i texts -/
def hasTx (xs : List Str) (i : Nat) : Str → Bool := fun z => (xs.take i).any (· == z)
theorem hasTx_step {xs : List Str} {i : Nat} (hd : xs.Nodup) (hi : i < xs.length) : hasTx xs i xs[i] = false ∧ ∀ z, hasTx xs (i + 1) z = (hasTx xs i z || decide (z = xs[i])) := by
  have e : xs.take (i + 1) = xs.take i ++ [xs[i]] := by rw [List.take_add_one, List.getElem?_eq_getElem hi]; rfl
  refine ⟨?_, fun z => ?_⟩
  · unfold hasTx
    rw [List.any_eq_false]
    intro y hy hz
    have hz : y = xs[i] := beq_iff_eq.mp hz
    obtain ⟨j, hj, ej⟩ := List.getElem_of_mem hy
    rw [List.length_take] at hj
    rw [List.getElem_take] at ej
    exact (List.pairwise_iff_getElem.mp hd j i (by omega) hi (by omega)) (ej.trans hz)
  · unfold hasTx
    rw [e, List.any_append, List.any_cons, List.any_nil, Bool.or_false]
    congr 1
    by_cases h : z = xs[i]
    · rw [h]
      simp
    · rw [decide_eq_false h]
      exact beq_eq_false_iff_ne.mpr fun q => h q.symm
theorem fill_texts {I : Addr} {fp wr : List Addr} {G : Array GenState → Array GenState → Prop} {n : Nat} {Pv : Nat → Value → Prop} {St : Nat → Shared → Prop} {R : Result → Shared → Prop}
    (W : WalksS P w A.in1 I fp wr G n Pv St) (S : Addr) (hSf : S ∉ fp) (xs : List Str) (hn : n = xs.length) (hb : xs.length + 1 < scanBound) (hd : xs.Nodup) (hval : ∀ i v, Pv i v → ∃ z t, xs[i]? = some z ∧ v = .str z t) :
    ∀ (k i : Nat) (s : Shared), n - i = k → i ≤ n → St i s → s.heap.SetOf (PySem.strKind P w) S (hasTx xs i) i →
      (∀ s', Moved (S :: wr) G s s' → s'.heap.SetOf (PySem.strKind P w) S (hasTx xs n) n → R (.ok (.ret .none)) s') →
      codeAny (model P w) A (.builtin "set.update.loop" ⟨[.ref S, .ref I], []⟩) R s := by
  have sub1 : ∀ b ∈ wr, b ∈ S :: wr := fun b h => List.mem_cons_of_mem _ h
  have there : ∀ {s₁ s₂ : Shared} {i c : Nat}, (∀ o, s₁.heap.get? S = some o → s₂.heap.get? S = some o) → s₁.heap.SetOf (PySem.strKind P w) S (hasTx xs i) c → s₂.heap.SetOf (PySem.strKind P w) S (hasTx xs i) c := fun k ⟨o, es, ep, t, ho, r⟩ => ⟨o, es, ep, t, k o ho, r⟩
  intro k
  induction k with
  | zero =>
    intro i s hk hi hst hS hR
    obtain rfl : i = n := by omega
    refine codeAny_builtin F.entry_set_update_loop ?_
    rw [Around.under_plainId F.plain_set_update_loop _]
    show wpAny _ A.in1 (pyNext (.ref I) >>= _) _ _ s
    refine wpAny_bind (W.done s _ _ hst fun s' hm => ?_)
    show wpAny _ A.in1 (ret Value.none) _ _ s'
    exact wpAny_pure (hR s' (hm.mono sub1) (there (fun o e => hm.heap S o (fun h => hSf (W.sub _ h)) e) hS))
  | succ k ih =>
    intro i s hk hi hst hS hR
    have hlt : i < n := by omega
    have hlx : i < xs.length := by omega
    refine codeAny_builtin F.entry_set_update_loop ?_
    rw [Around.under_plainId F.plain_set_update_loop _]
    show wpAny _ A.in1 (pyNext (.ref I) >>= _) _ _ s
    refine wpAny_bind (W.item i s _ _ hlt hst fun v s' hP hst' hm => ?_)
    obtain ⟨z, t, hz, rfl⟩ := hval i v hP
    have ez : z = xs[i] := by
      rw [List.getElem?_eq_getElem hlx] at hz
      exact (Option.some.inj hz).symm
    subst ez
    have hS' := there (s₂ := s') (fun o e => hm.heap S o (fun h => hSf (W.sub _ h)) e) hS
    show wpAny _ A.in1 (holding [Value.str xs[i] t] (setAdd S (.str xs[i] t)) >>= _) _ _ s'
    refine wpAny_bind (wpAny_holding ?_)
    unfold setAdd
    refine wpAny_holding ?_
    refine wpAny_bind ((PySem.strKind P w).pyHash (k := xs[i]) (strKind_is _ _ _ _) ?_)
    refine wpAny_setAddHashed_of (knd := PySem.strKind P w) (s := { s' with toks := s'.toks + 1 }) (strKind_is _ _ _ _) rfl hS' (by omega) fun h' hsb hS2 => ?_
    obtain ⟨h0, h1⟩ := hasTx_step hd hlx
    have hS3 : h'.SetOf (PySem.strKind P w) S (hasTx xs (i + 1)) (i + 1) := SetOf_congr hS2 (fun z => (h1 z).symm) (by rw [h0]; rfl)
    refine wpAny_pure ⟨plainId_quiet F.plain_set_update_loop _, ih (i + 1) _ (by omega) hlt (W.frame _ s' _ _ hst' (Nat.le_succ _) fun b hb o e => ?_) hS3 fun s'' hm'' hS'' => ?_⟩
    · rw [hsb.2 b (fun h : b = S => hSf (by rw [← h]; exact hb))]; exact e
    · refine hR s'' (Moved.trans W.gtrans ((hm.mono sub1).then_heap (Nat.le_succ _) fun b o hb e => ?_) hm'') hS''
      rw [hsb.2 b (fun h : b = S => hb (by rw [h]; exact List.mem_cons_self))]; exact e
set_option maxRecDepth 100000 in
set_option maxHeartbeats 3200000 in
theorem set_of_texts {l : Addr} {items : Array Value} (ns : List Str) {Q : Value → Shared → Prop} (hh : A.handled = none) (hl : s.heap.IsList l items) (hit : StrsAre items.toList ns) (hd : ns.Nodup) (hb : ns.length + 1 < scanBound)
    (h : ∀ (h' : Heap) (tk : Nat), h'.SetOf (PySem.strKind P w) s.heap.objs.size (hasTx ns ns.length) ns.length → (∀ b o, s.heap.get? b = some o → h'.get? b = some o) → Q (.ref s.heap.objs.size) { s with heap := h', toks := tk }) :
    wpAny (model P w) A (call (.type "set") [.ref l]) Q E s := by
  have hisz : items.size = ns.length := by
    have q := StrsAre.len_eq hit
    rw [Array.length_toList] at q
    exact q
  obtain ⟨c, tl, hmro⟩ := F.called_set.mro
  have hmade := F.called_set.made
  have hsub := F.called_set.sub
  refine wpAny_call (codeAny_of_tree ?_)
  show wpAny _ _ (callAny (.type "set") _) _ _ _
  refine wpAny_pure ⟨Code.quiet_builtin _ (by decide +kernel), codeAny_builtin F.entry_type_call ?_⟩
  rw [Around.under_plain (weight_type_call_type "set" [.ref l] []) rfl]
  have h1 := F.called_set.notType
  have h2 := F.called_set.canCreate
  have hct := F.typeCall_set_1 (.ref l)
  repeat (any_goals (first | assumption | wp_step))

  refine codeAny_mono (code_set_led1 (.ref l) (E := E) (Q₁ := fun obj s₁ => obj = .ref s.heap.objs.size ∧ s₁ = { s with heap := s.heap.push { cls := .type "set", dict := none, data := .set #[] 0 (.fresh 0 0 (!w.params.followText "set-order")) } }) ⟨rfl, rfl⟩) fun r s₁ hr => ?_
  cases r with
  | error e => exact hr
  | ok fl =>
    cases fl with
    | ret obj =>
      obtain ⟨rfl, rfl⟩ := hr
      have hS : (s.heap.push { cls := .type "set", dict := none, data := .set #[] 0 (.fresh 0 0 (!w.params.followText "set-order")) }).get? s.heap.objs.size = some { cls := .type "set", dict := none, data := .set #[] 0 (.fresh 0 0 (!w.params.followText "set-order")) } := Heap.get?_push_size _ rfl
      have hT : Shared.TypeIs { s with heap := s.heap.push { cls := .type "set", dict := none, data := .set #[] 0 (.fresh 0 0 (!w.params.followText "set-order")) } } (.ref s.heap.objs.size) "set" := ⟨_, hS, rfl⟩
      have hli := F.called_set.init.lookup
      have hbi := F.called_set.init.bind (.ref s.heap.objs.size)
      repeat (any_goals (first | assumption | wp_step))

      refine codeAny_mono (codeAny_call_builtin (R := wants (fun r s₂ => r = .none ∧ ∃ h' tk, s₂ = { s with heap := h', toks := tk } ∧ h'.SetOf (PySem.strKind P w) s.heap.objs.size (hasTx ns ns.length) ns.length ∧
          (∀ b o, s.heap.get? b = some o → h'.get? b = some o)) E) F.called_set.init.plain F.entry_set_init (check_set_init_1 hT ?_)) fun r₂ s₂ hr₂ => ?_
      · obtain ⟨ol, hol, hcl, nl, hdl⟩ := hl
        obtain ⟨ocls, odict, odata, oslots⟩ := ol
        simp only at hcl hdl
        subst hcl; subst hdl
        have hol' : (s.heap.push { cls := .type "set", dict := none, data := .set #[] 0 (.fresh 0 0 (!w.params.followText "set-order")) }).get? l = some { cls := .type "list", dict := odict, data := .seq items nl, slots := oslots } := Heap.get?_push_of_some _ hol
        have hsls := F.sub_list_set
        have hslf := F.sub_list_frozenset
        have hne : (Value.type "list" == Value.type "dict") = false := by decide
        have hl1 : (s.heap.push { cls := .type "set", dict := none, data := .set #[] 0 (.fresh 0 0 (!w.params.followText "set-order")) }).IsList l items := ⟨_, hol', rfl, nl, rfl⟩
        unfold Builtin.«set.__init__» noKeywords Builtin.Frozenset.updateFrom
        generalize hPI : pyIter = PI
        wp_walk
        subst hPI

        refine wpAny_pyIter_list hl1 ?_
        refine wpAny_bind (wpAny_runValue ?_)
        have hlS : l < s.heap.objs.size := Heap.lt_size hol
        have hh3 : A.in1.in1.in1.handled = none := by simp [hh]
        have hz1 : (s.heap.push { cls := .type "set", dict := none, data := .set #[] 0 (.fresh 0 0 (!w.params.followText "set-order")) }).objs.size = s.heap.objs.size + 1 := Heap.size_push ..
        have hneI : l ≠ (s.heap.push { cls := .type "set", dict := none, data := .set #[] 0 (.fresh 0 0 (!w.params.followText "set-order")) }).objs.size := by
          rw [Heap.size_push]; exact Nat.ne_of_lt (Nat.lt_succ_of_lt hlS)
        have hSf : s.heap.objs.size ∉ [(s.heap.push { cls := .type "set", dict := none, data := .set #[] 0 (.fresh 0 0 (!w.params.followText "set-order")) }).objs.size, l] := by
          rw [Heap.size_push]; simp only [List.mem_cons, List.mem_singleton, List.not_mem_nil, or_false, not_or]
          exact ⟨Nat.ne_of_lt (Nat.lt_succ_self _), Nat.ne_of_gt hlS⟩
        have hval : ∀ (i : Nat) (v : Value), items[i]? = some v → ∃ k t, ns[i]? = some k ∧ v = .str k t := fun i v hv => by
          have hi : i < ns.length := by rw [← hisz]; exact (Array.getElem?_eq_some_iff.mp hv).1
          obtain ⟨t, e⟩ := SS.strs_at hit i v (by rw [Array.getElem?_toList]; exact hv)
          refine ⟨ns[i], t, List.getElem?_eq_getElem hi, ?_⟩
          rw [e, List.getD_eq_getElem?_getD, List.getElem?_eq_getElem hi] <;> rfl
        refine fill_texts ((Walks.list hh3 _ l hneI items).toS) s.heap.objs.size
          hSf ns hisz hb hd hval (items.size - 0) 0 _ (by omega) (Nat.zero_le _)
          ⟨⟨_, Heap.get?_push_size _ rfl, rfl, rfl⟩, (hl1.push _)⟩ ?hS0 ?hR
        case hS0 =>
          have hget : ((s.heap.push { cls := .type "set", dict := none, data := .set #[] 0 (.fresh 0 0 (!w.params.followText "set-order")) }).push { cls := .type "list_iterator", data := .fields #[.ref l, .int 0 0] }).get? s.heap.objs.size
              = some { cls := .type "set", dict := none, data := .set #[] 0 (.fresh 0 0 (!w.params.followText "set-order")) } := Heap.get?_push_of_some _ hS
          exact SetOf_congr ((setObjOf_fresh (knd := PySem.strKind P w) _).setOf hget (by unfold scanBound; omega)) (fun _ => rfl) rfl
        case hR =>
          intro s' hm hS'
          obtain ⟨h', g2, d', tk', os'⟩ := s'
          have eg : g2 = s.gens := hm.gens
          have ed : d' = s.drawn := hm.drawn
          have eo : os' = s.os := hm.os
          subst eg; subst ed; subst eo
          show wpAny _ _ _ _ _ _
          refine wpAny_pure ?_
          show wpAny _ _ (ret Value.none) _ _ _
          rw [hisz] at hS'
          refine wpAny_pure ⟨rfl, h', tk', rfl, hS', fun b o e => ?_⟩
          have hb0 : b < s.heap.objs.size := Heap.lt_size e
          have hb1 : b ≠ s.heap.objs.size := Nat.ne_of_lt hb0
          have hb2 : b ≠ (s.heap.push { cls := .type "set", dict := none, data := .set #[] 0 (.fresh 0 0 (!w.params.followText "set-order")) }).objs.size := by
            rw [Heap.size_push]; exact Nat.ne_of_lt (Nat.lt_succ_of_lt hb0)
          exact hm.heap b o (by simp only [List.mem_cons, List.mem_singleton, List.not_mem_nil, or_false, not_or]; exact ⟨hb1, hb2⟩) (Heap.get?_push_of_some _ (Heap.get?_push_of_some _ e))

      · cases r₂ with
        | error e => exact hr₂
        | ok fl₂ =>
          cases fl₂ with
          | ret r =>
            obtain ⟨rfl, h', tk, rfl, hS', hk'⟩ := hr₂
            repeat (any_goals (first | assumption | wp_step))
            exact h _ _ hS' hk'
          | _ => exact hr₂.elim
    | _ => exact hr.elim

end
end Lh

set_option Elab.async false
set_option linter.all false
set_option maxRecDepth 100000
set_option maxHeartbeats 4000000
/-! Anything at all in a list or tuple of texts; starred arguments; how many unlike texts; dicts that grow. -/
namespace PySem.SeqAt
open AutoSeq1 (wpAny_loadPart')
open MeetsSeq MeetsSeq2 MeetsSeq3
theorem dict_eq_declines_str (l : Addr) (es : Array DictEntry) (ep : Nat) (dd : Option Addr) (sl : Array (Option Value)) (b : Str) (u : Tok) :
    Meets (Builtin.«dict.__eq__» ⟨[.ref l, .str b u], []⟩) (fun _ R s => s.heap.get? l = some { cls := .type "dict", dict := dd, data := .dict es ep, slots := sl } ∧ R (.ok (.ret .notImplemented)) s) :=
  .of_wp fun prog w A R s h => by obtain ⟨hp, g, d, tk, os⟩ := s; obtain ⟨hl, h⟩ := h; have f1 := F.sub_str_dict; wp_walk using wpAny_loadPart' hl; exact ⟨_, rfl, h⟩
theorem str_eq_declines_dict (b : Str) (u : Tok) (l : Addr) (c : Value) (es : Array DictEntry) (ep : Nat) (dd : Option Addr) (sl : Array (Option Value)) :
    Meets (Builtin.«str.__eq__» ⟨[.str b u, .ref l], []⟩) (fun _ R s => s.heap.get? l = some { cls := c, dict := dd, data := .dict es ep, slots := sl } ∧ R (.ok (.ret .notImplemented)) s) :=
  .of_wp fun prog w A R s h => by obtain ⟨hp, g, d, tk, os⟩ := s; obtain ⟨hl, h⟩ := h; wp_walk using wpAny_loadPart' hl, wpAny_load hl; exact ⟨_, rfl, h⟩
theorem RcAt.str_dict {A : Around} {s : Shared} {l : Addr} {es : Array DictEntry} {ep : Nat} {dd : Option Addr} {sl : Array (Option Value)} (b : Str) (u : Tok) (ho : s.heap.get? l = some { cls := .type "dict", dict := dd, data := .dict es ep, slots := sl }) (hu : A.units < cLine) : RcAt A s (.str b u) (.ref l) false := fun prog w E Q h => by
  exact rc_eq_decline_or (k := false) (typeIs_str s b u) ⟨_, ho, rfl⟩ (by decide) F.sub_dict_str F.slot_str_eq F.slot_dict_eq_refl
    (fun _ hq => call_meets F.slot_str_eq (typeIs_str s b u) F.entry_str_eq (F.args_str_eq_2 _ _) (str_eq_declines_dict b u l (.type "dict") es ep dd sl) ⟨ho, hq⟩)
    (fun _ hq => call_meets F.slot_dict_eq_refl ⟨_, ho, rfl⟩ F.entry_dict_eq (F.args_dict_eq_2 _ _) (dict_eq_declines_str l es ep dd sl b u) ⟨ho, hq⟩)
    (fun _ hq => wpAny_of_eq (rfl : isSame (.str b u) (.ref l) = pure false) hq) (.inr hu) h
theorem EqAt.str_dict {A : Around} {s : Shared} {l : Addr} {es : Array DictEntry} {ep : Nat} {dd : Option Addr} {sl : Array (Option Value)} (b : Str) (u : Tok) (ho : s.heap.get? l = some { cls := .type "dict", dict := dd, data := .dict es ep, slots := sl }) (hu : A.units < cLine) : EqAt A s (.str b u) (.ref l) false := fun prog w E Q h => by
  unfold eqBool
  refine wpAny_holding (wpAny_ite_split (fun z => absurd (eq_of_beq z) nofun) fun _ => ?_)
  exact wpAny_bind (RcAt.str_dict b u ho hu prog w E _ (wpAny_truthy_bool h))
end PySem.SeqAt
namespace Vc
open PySem PySem.Spec PyProof.Rows L2 PySem.W Lh
section
variable {X : Cx}
def tLenSetS (K : Frag) (ta : TE) : TE := fun σ H Q => ta σ H fun x H1 => ∃ (l : Addr) (xs : List Str), x = .ref l ∧ SqL K H1 l (xs.map V.str) ∧ xs.Nodup ∧ xs.length ≤ 1000 ∧ Q (.int xs.length) H1
theorem pe_lenSetS {a : Expr} {ta : TE} {p p2 q pos : Pos} (hc : X.calm = true) (hg : Gl X "len") (hm : X.mg "len" = none) (hg2 : Gl X "set") (hm2 : X.mg "set" = none) (ha : PE X a ta)
    (na : starEach [a] X.env = (false, eval a X.env) :: starEach [] X.env := by rfl) : PE X (.Call (.Name "len" p) [.Call (.Name "set" p2) [a] [] q] [] pos) (tLenSetS X.K ta) := by
  refine ⟨fun pins s σ H Q I h => ?_⟩
  refine Call_ (ld_blt I hg hm boot_len ?_)
  refine PyProof.Rows.callWith_builtin1 (PyProof.Rows.args_cons ?_ rfl) rfl rfl
  refine Call_ (ld_blt I hg2 hm2 boot_set ?_)
  refine PyProof.Rows.callWith_type1 (PyProof.Rows.args_cons (thn (ha.run pins s σ H _ I h) fun v s1 ⟨x, H1, I1, r1, q1⟩ => PyProof.Rows.args_nil ?_) na) na rfl
  obtain ⟨l, xs, rfl, hq, hd, h1, q1⟩ := q1
  cases r1
  obtain ⟨its, r, pl, hz⟩ := I1.list hq
  refine set_of_texts xs (I1.ok.hd hc) pl.isList (by simpa using strsAre_of r) hd (Nat.lt_of_le_of_lt (Nat.add_le_add_right h1 1) (by decide)) fun h' tk hS hk => ?_
  refine PyProof.Rows.args_nil ?_
  obtain ⟨o, es, ep, t, ho, hex, hdt, _, _, _, hf, hn⟩ := hS
  have I2 : Inv X pins σ H1 { s1 with heap := h', toks := tk } := I1.kept fun b o e => hk b o e
  refine call_len_set ho hex hdt hf (by rw [hn]; omega) ⟨.int xs.length, H1, I2.tok _, ⟨_, by rw [hn]⟩, q1⟩
end

/-! ### anything at all among texts -/
def dIsS (z : Str) : PyData → Bool
  | .str a => z == a
  | _ => false
def vIsS (z : Str) : V → Bool
  | .str a => z == a
  | _ => false
def rInA (K : Frag) (neg : Bool) : R2 := fun x y H Q => ∃ (p : Addr) (ts : List Str), y = .ref p ∧ (SqL K H p (ts.map V.str) ∨ SqT K H p (ts.map V.str)) ∧ Knd K H x ∧ Q (.bl (neg ^^ ts.any fun z => vIsS z x)) H
section
variable {X : Cx}
def eqT (x : V) (u : Value) : Bool := match u with
  | .str z _ => vIsS z x
  | _ => false
theorem eqT_any {x : V} : ∀ {ts : List Str} {us : List Value}, Vals (ts.map V.str) us → us.any (eqT x) = ts.any fun z => vIsS z x
  | [], _, .nil => rfl
  | z :: ts, _, .cons r t => by
    obtain ⟨k, rfl⟩ := r
    rw [List.any_cons, List.any_cons, eqT_any t]
    rfl
theorem eqT_at {A : Around} {pins : List (Addr × Obj)} {σ : L2.St} {H : Hp} {s : Shared} (I : Inv X pins σ H s) (hu : A.units < cLine) {x : V} {v : Value} (rx : RelV x v) (hk : Knd X.K H x) : ∀ {ts : List Str} {us : List Value}, Vals (ts.map V.str) us → ∀ u ∈ us, SeqAt.EqAt A s u v (eqT x u)
  | [], _, .nil => fun u h => by cases h
  | z :: ts, _, .cons r t => fun u h => by
    rcases List.mem_cons.mp h with rfl | h
    · obtain ⟨k, rfl⟩ := r
      cases x with
      | non => cases rx; exact SeqAt.EqAt.str_none z k
      | bl b => cases rx; exact SeqAt.EqAt.str_bool z k b
      | int i => obtain ⟨t', rfl⟩ := rx; exact SeqAt.EqAt.str_int z k i t'
      | str a => obtain ⟨t', rfl⟩ := rx; exact SeqAt.EqAt.str_str z k a t'
      | byt b => exact hk.elim
      | flt b => exact hk.elim
      | ty n => exact hk.elim
      | ref a =>
        cases rx
        rcases hk with ⟨xs, h⟩ | ⟨xs, h⟩ | ⟨kvs, h⟩
        · obtain ⟨its, rv, p, _⟩ := I.tuple h
          exact SeqAt.EqAt.str_tuple z k p hu
        · obtain ⟨its, rv, p, _⟩ := I.list h
          exact SeqAt.EqAt.str_list z k p.isList hu
        · obtain ⟨_, _, vs, _, o, es, ep, e, ⟨h1, h2, h3⟩, h4, _⟩ := (show ObjOk X.prog X.w H s.heap a (.dK kvs) from h.ok I.hok)
          obtain ⟨cls, dd, data, sl⟩ := o
          cases h1
          cases h4
          exact SeqAt.EqAt.str_dict z k e hu
    · exact eqT_at I hu rx hk t u h
theorem op_inA (hu : X.A.units + 64 < cLine) : OpR X (compareOp .In) (rInA X.K false) := by
  intro pins s σ H x y v u Q I rx ry h
  obtain ⟨p, ts, rfl, hq, hk, q⟩ := h
  cases ry
  have hu1 : X.A.in1.units < cLine := by show X.A.units + 1 < cLine; omega
  rw [Bool.false_xor] at q
  rcases hq with hq | hq
  · obtain ⟨its, rv, pl, _⟩ := I.list hq
    refine SeqAt.in_listAt (eqT x) pl.isList (fun z hz => eqT_at I hu1 rx hk rv z (by simpa using hz)) ⟨.bl _, H, I, rfl, ?_⟩
    rw [show its.toArray.any (eqT x) = its.any (eqT x) by simp, eqT_any rv]
    exact q
  · obtain ⟨its, rv, pl, _⟩ := I.tuple hq
    refine SeqAt.in_tupleAt (eqT x) pl (fun z hz => eqT_at I hu1 rx hk rv z (by simpa using hz)) ⟨.bl _, H, I, rfl, ?_⟩
    rw [show its.toArray.any (eqT x) = its.any (eqT x) by simp, eqT_any rv]
    exact q
theorem k_inA (K : Frag) (hu : X.A.units + 64 < cLine) (hK : X.K = K := by rfl) : OpR X (compareOp .In) (rInA K false) := hK ▸ op_inA hu
end
end Vc

set_option Elab.async false
set_option linter.all false
set_option maxRecDepth 100000
set_option maxHeartbeats 4000000
/-! Over data: anything among texts, how many unlike texts, dicts that begin empty and are handed on. -/
namespace Vc
open PySem PySem.Spec PyProof.Rows L2 PySem.W Lh
/-- x in these texts -/
def gInA (neg : Bool) : PyData → Bool → List PyData → (PyData → Prop) → Prop := fun x _ ds Q => ∃ ts : List Str, ds = ts.map .str ∧ noO x = true ∧ Q (.bool (neg ^^ ts.any fun z => dIsS z x))
section
variable {S : Stt} {K : Frag}
theorem ind_inA : InD S (rInA K false) (gInA false) := fun {m Γ σ H x d b t xs ds Q R} ok E ox o ⟨ts, e, hn, k⟩ q => by
  subst e
  have ex : xs = ts.map V.str := DqA.strs o.it
  refine ⟨b, ts, rfl, ?_, Dq.knd ox hn, ?_⟩
  · have hb := o.hb
    cases t with
    | false => exact .inl (.inl (.inl (ex ▸ hb)))
    | true => exact .inr (.inl (ex ▸ RdF.rd hb))
  · have e : (fun z => vIsS z x) = fun z => dIsS z d := by
      funext z
      cases ox <;> rfl
    rw [e]
    exact q _ H _ Stp.refl (.bl _) k
/-- len(set(xs)) of unlike texts -/
def aLenSet (fl : AL) : AE := fun a Q => fl a fun t ds => t = false ∧ ∃ ts : List Str, ds = ts.map .str ∧ ts.Nodup ∧ ts.length ≤ 1000 ∧ Q (.int ts.length)
theorem evw_lenSet {te : TE} {fl : AL} (h : EvS S c_te te fl) : EvW S c_te (tLenSetS K te) (aLenSet fl) := fun m Γ a Q ok mt hh σ H E R q =>
  h m Γ a _ ok mt hh σ H E.le _ fun b t xs ds H1 s o ⟨e0, ts, e, nd, hl, k⟩ => by
    subst e0 e
    have ex : xs = ts.map V.str := DqA.strs o.it
    exact ⟨b, ts, rfl, .inl (.inl (ex ▸ o.hb)), nd, hl, q _ H1 s ⟨_, .int _, k⟩⟩
end
section
variable {X : Cx} {S : Stt} {e : Expr} {te : TE} {fl : AL} {p p2 q pos : Pos}
theorem e_lenSet (K : Frag) (hm : X.mg "len" = none) (hm2 : X.mg "set" = none) (h : PVS X S c_te e te fl) (hc : X.calm = true := by rfl) (hg : Gl X "len" := by rfl) (hg2 : Gl X "set" := by rfl)
    (na : starEach [e] X.env = (false, eval e X.env) :: starEach [] X.env := by rfl) (hK : X.K = K := by rfl) : PV X S c_te (.Call (.Name "len" p) [.Call (.Name "set" p2) [e] [] q] [] pos) (tLenSetS K te) (aLenSet fl) := by
  subst hK
  exact ⟨pe_lenSetS hc hg hm hg2 hm2 h.pe na, evw_lenSet h.ev⟩
end
/-! ### a dict that begins empty -/
def dictD (kvs : List (L2.Key × PyData)) : PyData := .dict (kvs.map fun z => (kD z.1, z.2))
theorem dictD_noO : ∀ {kvs : List (L2.Key × PyData)}, isO (kvs.map fun z => (kD z.1, z.2)) = false
  | [] => rfl
  | (.inl _, _) :: _ => rfl
  | (.inr _, _) :: _ => rfl
theorem Dq.ofDk {A : Addr → Prop} {H : Hp} {p : Addr} {kw : List (L2.Key × V)} {kvs : List (L2.Key × PyData)} (h : H p = some (.dK kw)) (n : ¬ A p) (e : kw.map Prod.fst = kvs.map Prod.fst) (o : DqA A H (kw.map Prod.snd) (kvs.map Prod.snd)) : Dq A H (.ref p) (dictD kvs) := by
  have e5 : (kw.map fun z => kV z.1) = (kvs.map Prod.fst).map kV := by rw [← e, List.map_map]; rfl
  have e6 : (kvs.map fun z => (Vc.kD z.1, z.2)).map (·.1) = (kvs.map Prod.fst).map Vc.kD := by rw [List.map_map, List.map_map]; rfl
  have e7 : (kvs.map fun z => (Vc.kD z.1, z.2)).map (·.2) = kvs.map Prod.snd := by rw [List.map_map]; rfl
  exact .dct (.inl h) n (by rw [e5, e6]; exact DqA.keys _) (by rw [e7]; exact o)
/-- x = {} -/
def aSetM0 (i : Nat) : AS := fun En a => En.nx (a.set i (.m []))
/-- x, y = {}, e -/
def aParM (i j : Nat) (fe : AE) : AS := fun En a => fe a fun x => En.nx ((a.set i (.m [])).set j (.d x))
def sealM (a : Sg) (i : Nat) : Sg := match a[i]? with
  | some (.m kvs) => a.set i (.d (dictD kvs))
  | _ => a
/-- from here on the dict is a datum -/
def aSealM (i : Nat) (s : AS) : AS := fun En a => s En (sealM a i)
section
variable {X : Cx} {S : Stt} {κ : Bool} {i j : Nat} {x y : Str} {e : Expr} {te : TE} {fe : AE} {t : TS} {s : AS} {st : Stmt} {pos px py pt pd p2 : Pos} {K : Frag}
theorem stw_setM0 : StW S κ 0 (tAsg tDNewK (gName i)) (aSetM0 i) := fun F De En a σ H kr c ⟨m, Γ, f, mt, d, E⟩ h => fun p hp => by
  have E0 : Env (m.add p) kr Γ σ (upd H p (.dK [])) := (Env.newM0 E hp).le
  exact c.nx _ _ _ ⟨m.add p, _, f.add, mt.set (.m [] p), d.setB (NoBox.wk (E.noBox hp)), E0.set ⟨rfl, .inr rfl, E.freeM hp, E.free0 hp, _, upd_same, [], rfl, rfl, .nil⟩⟩ h
theorem s_setM0 (hN : X.N.Nodup) (hi : X.N[i]? = some x) (hx : Loc X.env.scope x) (hs : swapsWith (.Dict [] [] pd) (some (.Name x px)) pos.line X.env = pure false := by rfl)
    (hf : X.fn x = true ∨ X.env.scope.names.lookup x = some .local := by first | exact .inl rfl | exact .inr rfl | assumption) : PVst X S κ 0 (.Assign [.Name x px] (.Dict [] [] pd) pos) (tAsg tDNewK (gName i)) (aSetM0 i) := ⟨ps_set hN hi hx pe_dnewK hs hf, stw_setM0⟩
theorem stw_parM (hij : i ≠ j) (he : EvW S c_te te fe) : StW S κ c_te (tPar i j (tCons tDNewK (tCons te tNil))) (aParM i j fe) := fun F De En a σ H kr c ⟨m, Γ, f, mt, d, E⟩ h => fun p hp => by
  have nM : ¬ m.M p := Env.freeM E hp
  have nb : NoBox p Γ := E.noBox hp
  have E0 : Env (m.add p) (c_te + kr) Γ σ (upd H p (.dK [])) := Env.newM0 E hp
  refine he (m.add p) Γ a _ f.ok.add mt h σ _ E0.le _ fun v H2 s ⟨x, o, k⟩ => ?_
  have E2 : Env (m.add p) kr Γ σ H2 := E0.step s
  have h2 : H2 p = some (.dK []) := s.kp p _ upd_same nM
  have E3 := E2.set (i := i) (v := .ref p) (g := .box p (bM [])) ⟨rfl, .inr rfl, nM, E.free0 hp, _, h2, [], rfl, rfl, .nil⟩
  have E4 := E3.set (i := j) (v := v) (g := D x) o
  exact ⟨_, _, rfl, c.nx _ _ _ ⟨m.add p, _, f.add, (mt.set (.m [] p)).set (.d x), (d.setB (NoBox.wk nb)).fewer Fewer.set, E4⟩ k⟩
theorem s_parM {kt : Nat} {k2 pt2} (hc : X.calm = true) (hN : X.N.Nodup) (hi : X.N[i]? = some x) (hj : X.N[j]? = some y) (hij : i ≠ j) (hx : X.env.scope.names.lookup x = some .local) (hy : X.env.scope.names.lookup y = some .local) (he : PV X S c_te e te fe)
    (hw : swappedStores [.Tuple [.Name x px, .Name y py] kt pt] (.Tuple [.Dict [] [] pd, e] k2 pt2) X.env = pure (some [x, y])) (h1 : starEach [e] X.env = (false, eval e X.env) :: starEach [] X.env := by rfl)
    (h2 : starEach [.Dict [] [] pd, e] X.env = (false, eval (.Dict [] [] pd) X.env) :: starEach [e] X.env := by rfl)
    (hs : swapsWithSole [.Tuple [.Name x px, .Name y py] kt pt] (.Tuple [.Dict [] [] pd, e] k2 pt2) pos.line X.env = pure false := by rfl) :
    PVst X S κ c_te (.Assign [.Tuple [.Name x px, .Name y py] kt pt] (.Tuple [.Dict [] [] pd, e] k2 pt2) pos) (tPar i j (tCons tDNewK (tCons te tNil))) (aParM i j fe) := ⟨ps_par hc hN hi hj hij hx hy (pa_cons pe_dnewK (pa_cons he.pe pa_nil h1) h2) hw hs, stw_parM hij he.ev⟩
theorem Env.sealM {k : Nat} {m : Md} {Γ : Gam} {σ : L2.St} {H : Hp} {p : Addr} {kvs : List (L2.Key × PyData)} (E : Env m k Γ σ H) (h : Γ[i]? = some (some (.box p (bM kvs)))) (hb : NoBox p (Γ.set i none)) : Env (m.del p) k (Γ.set i (some (D (dictD kvs)))) σ H := by
  obtain ⟨v, h1, rfl, h3, h4, h5, o, h6, kw, rfl, e1, h7⟩ := E.sl i _ h
  have E1 := (E.forget i).leave h4 hb
  have E2 := E1.set (i := i) (v := .ref p) (g := D (dictD kvs)) (Dq.ofDk h6 (fun z => z.2 rfl) e1 (h7.to To.del))
  rw [List.set_set] at E2
  have es : σ.set i (some (V.ref p)) = σ := by
    obtain ⟨hl, e⟩ := List.getElem?_eq_some_iff.mp h1
    rw [← e]
    exact List.set_getElem_self hl
  rw [es] at E2
  exact E2
theorem stw_sealM (h : StW S κ c_t t s) : StW S κ c_t t (aSealM i s) := fun F De En a σ H kr c ⟨m, Γ, f, mt, d, E⟩ k => by
  unfold aSealM sealM at k
  split at k
  · rename_i kvs e
    obtain ⟨q, e⟩ := mt.m e
    obtain ⟨v, h1, h2, h3, h4, h5, _⟩ := E.sl i _ e
    refine h F De En _ σ H kr c ⟨m.del q, _, ⟨f.hH, f.ok.del, f.hB, fun b hb => ⟨f.sub b hb, fun z => (F.trk0 b hb).1 (by rw [z, ← f.hH]; exact h5)⟩, f.ex⟩, mt.set (.d _), d.fewer Fewer.set, Env.sealM E e (d.alone e)⟩ k
  · exact h F De En a σ H kr c ⟨m, Γ, f, mt, d, E⟩ k
theorem s_sealM (i : Nat) (h : PVst X S κ c_t st t s) : PVst X S κ c_t st t (aSealM i s) := ⟨h.pe, stw_sealM h.ev⟩
end
end Vc

set_option Elab.async false
set_option linter.all false
set_option maxRecDepth 100000
set_option maxHeartbeats 4000000
/-! A list from end to end by a step that is reckoned; a dict's keys as a list; like dicts. -/
namespace Vc
open PySem PySem.Spec PyProof.Rows L2 PySem.W Lh
theorem bounds_up (n : Nat) : sliceBounds none none (some 1) n = (0, (n : Int), 1) := by
  first
  | rfl
  | simp [sliceBounds]
theorem range_up (n : Nat) : sliceRange 0 (n : Int) 1 = List.range n := by
  unfold sliceRange
  by_cases h : (0 : Int) < (n : Int)
  · have e : ((n : Int) - 0 + 1 - 1) / 1 = (n : Int) := by rw [Int.ediv_one]; omega
    have h2 : 0 < n := by omega
    simp [h, h2]
  · have e : n = 0 := by omega
    subst e
    simp
theorem pick_up (items : Array Value) : slicePick items none none (some 1) = items.toList.toArray := by
  unfold slicePick
  rw [bounds_up]
  show ((sliceRange 0 (items.size : Int) 1).filterMap (items[·]?)).toArray = _
  rw [range_up, krv_all]
/-- e[::st], st 1 or -1 -/
def stepQ (K : Frag) (x : V) (Q : VK) : Option Int → Hp → Prop := fun o H2 => match o with
  | some i => ∃ a xs, x = .ref a ∧ SqL K H2 a xs ∧ ((i = -1 ∧ ∀ p, H2 p = none → Q (.ref p) (upd H2 p (.lst xs.reverse))) ∨ (i = 1 ∧ ∀ p, H2 p = none → Q (.ref p) (upd H2 p (.lst xs))))
  | none => False
def tStepL (K : Frag) (te ts : TE) : TE := fun σ H Q => te σ H fun x H1 => (∃ a, x = .ref a) ∧ ts σ H1 fun y H2 => ∃ i, y = .int i ∧ stepQ K x Q (some i) H2
theorem pe_stepL {X : Cx} {e st : Expr} {te ts : TE} {p3 pos : Pos} (he : PE X e te) (hst : PE X st ts)
    (hsub : ∀ o i, subscripted (.Slice none none (some st) p3) false o i = operate [o, i] (getItem o i) := by intro _ _; with_unfolding_all rfl) : PE X (.Subscript e (.Slice none none (some st) p3) pos) (tStepL X.K te ts) := by
  refine ⟨fun pins s σ H Q I h => ?_⟩
  refine Subscript_ (thn (he.run pins s σ H _ I h) fun v s1 ⟨x, H1, I1, r1, ⟨a, ex⟩, q1⟩ => ?_)
  subst ex
  cases r1
  have hpo : PO X (some st) (tPart ts) := po_some hst
  refine wpAny_Slice (thn (po_none.run pins s1 σ H1 (fun o H2 => o = none ∧ H2 = H1) I1 ⟨rfl, rfl⟩) fun vl s2 ⟨l, H2, I2, pl, el, e2⟩ => ?_)
  subst el e2
  refine thn (po_none.run pins s2 σ H2 (fun o H3 => o = none ∧ H3 = H2) I2 ⟨rfl, rfl⟩) fun vu s3 ⟨u, H3, I3, pu, eu, e3⟩ => ?_
  subst eu e3
  refine thn (hpo.run pins s3 σ H3 (stepQ X.K (.ref a) Q) I3 q1) fun vs s4 ⟨o, H4, I4, ps, q⟩ => ?_
  cases o with
  | none => exact q.elim
  | some i =>
    obtain ⟨a', xs, ea, hx, q⟩ := q
    cases ea
    have I5 : Inv X pins σ H4 { s4 with heap := s4.heap.push { cls := .type "slice", data := .fields #[vl, vu, vs] } } := I4.kept (t' := s4.toks) fun b ob q => Heap.get?_push_of_some _ q
    obtain ⟨its, r, ht, hz⟩ := I5.list hx
    have hlen := r.length
    have h0 : (some i : Option Int) ≠ some 0 := by
      rcases q with ⟨rfl, _⟩ | ⟨rfl, _⟩ <;> decide
    show wpAny (model X.prog X.w) X.A (subscriptTail e (.Slice none none (some st) p3) (.ref a) (.ref s4.heap.objs.size)) (EP X pins σ Q) X.xe { s4 with heap := s4.heap.push { cls := .type "slice", data := .fields #[vl, vu, vs] } }
    refine tail_any (ops := [.ref a, .ref s4.heap.objs.size]) ht.isList.typeIs (PySem.slot_list_getitem.lookup) ?_ (hsub _ _)
    refine wpAny_getItem_list_slice ht.isList (Heap.IsSliceOf.new _ vl vu vs) pl pu ps h0 ?_ (by rw [List.size_toArray]; omega)
    rcases q with ⟨rfl, q⟩ | ⟨rfl, q⟩
    · rw [PySem.W.krv_pick]
      refine ⟨.ref _, _, I5.laid (t' := s4.toks) (o := .lst xs.reverse) (fun b ob q => Heap.get?_push_of_some _ q) (Nat.le_refl _) ?_, rfl, q _ (I5.hok.fresh (Nat.le_refl _))⟩
      exact ⟨by rw [List.length_reverse]; exact hz, _, 0, r.reverse, Heap.get?_push_size _ rfl⟩
    · rw [pick_up]
      refine ⟨.ref _, _, I5.laid (t' := s4.toks) (o := .lst xs) (fun b ob q => Heap.get?_push_of_some _ q) (Nat.le_refl _) ?_, rfl, q _ (I5.hok.fresh (Nat.le_refl _))⟩
      exact ⟨hz, _, 0, r, Heap.get?_push_size _ rfl⟩
/-- over data: from the front, or from behind -/
def aStepL (fl : AL) (fe : AE) : AN := fun a Q => fl a fun t ds => fe a fun y => t = false ∧ ∃ i, y = .int i ∧ ((i = -1 ∧ Q ds.reverse) ∨ (i = 1 ∧ Q ds))
theorem evn_stepL {S : Stt} {K : Frag} {te ts : TE} {fl : AL} {fe : AE} (h : EvS S c_te te fl) (h2 : EvW S c_ts ts fe) : EvN S (c_te + c_ts) (tStepL K te ts) (aStepL fl fe) := fun m Γ a Q ok mt hh σ H E R q =>
  h m Γ a _ ok mt hh σ H E.le _ fun b t xs ds H1 s sq k => ⟨⟨b, rfl⟩, h2 m Γ a _ ok mt k σ H1 (E.step s) _ fun y H2 s2 ⟨dy, oy, et, i, ei, k2⟩ => by
    subst et ei
    cases oy
    have sq2 := sq.step s2 E.sub
    refine ⟨i, rfl, b, xs, rfl, .inl (.inl sq2.hb), ?_⟩
    rcases k2 with ⟨rfl, k2⟩ | ⟨rfl, k2⟩
    · exact .inl ⟨rfl, new_fresh E (s.trans s2).le (DqA.rev sq2.it) k2 q⟩
    · exact .inr ⟨rfl, new_fresh E (s.trans s2).le sq2.it k2 q⟩⟩
theorem n_stepL {X : Cx} {S : Stt} {e st : Expr} {te ts : TE} {fl : AL} {fe : AE} {p3 pos : Pos} (K : Frag) (h : PVS X S c_te e te fl) (h2 : PV X S c_ts st ts fe) (hK : X.K = K := by rfl)
    (hsub : ∀ o i, subscripted (.Slice none none (some st) p3) false o i = operate [o, i] (getItem o i) := by intro _ _; with_unfolding_all rfl) : PVN X S (c_te + c_ts) (.Subscript e (.Slice none none (some st) p3) pos) (tStepL K te ts) (aStepL fl fe) := by
  subst hK
  exact ⟨pe_stepL h.pe h2.pe hsub, evn_stepL h.ev h2.ev⟩
/-! ### list(d) -/
def aListD (fe : AE) : AN := fun a Q => fe a fun x => ∃ ds, x = .dict ds ∧ isO ds = false ∧ Q (ds.map (·.1))
def rKeysL : List V → Hp → VK → Prop := fun xs H Q => ∃ (a : Addr) (kvs : List (L2.Key × V)), xs = [.ref a] ∧ Rd H a (.dK kvs) ∧ ∀ p, H p = none → Q (.ref p) (upd H p (.lst (kvs.map fun kv => kV kv.1)))
theorem k_keysL {X : Cx} (hc : X.calm = true := by rfl) : CallR X (.type "list") rKeysL := call_listD hc
theorem evn_listD {S : Stt} {te : TE} {fe : AE} (h : EvW S c_te te fe) : EvN S c_te (tCB rKeysL (tCons te tNil)) (aListD fe) := fun m Γ a Q ok mt hh σ H E R q =>
  h m Γ a _ ok mt hh σ H E.le _ fun v H1 s ⟨d, o, ds, ed, hn, k⟩ => by
    subst ed
    obtain ⟨b, kvs, rfl, hr, _, o1, _⟩ := Dq.dict o hn
    exact ⟨b, kvs, rfl, hr, new_fresh E s.le o1 k q⟩
theorem n_listD {X : Cx} {S : Stt} {e : Expr} {te : TE} {fe : AE} {p pos : Pos} (hm : X.mg "list" = none) (h : PV X S c_te e te fe) (hc : X.calm = true := by rfl) (hg : Gl X "list" := by rfl)
    (he : starEach [e] X.env = (false, eval e X.env) :: starEach [] X.env := by rfl) (hpl : (backTo pos (starEach [] X.env)).any (·.1) = false := by rfl) : PVN X S c_te (.Call (.Name "list" p) [e] [] pos) (tCB rKeysL (tCons te tNil)) (aListD fe) :=
  ⟨pe_callTy (k_keysL hc) hg hm (by decide +kernel) (pa_cons h.pe pa_nil he) (by decide) (by decide) he hpl, evn_listD h.ev⟩
/-! ### like dicts -/
def rNeK : R2 := fun x y H Q => ∃ a b ks ls, x = .ref a ∧ y = .ref b ∧ Rd H a (.dK ks) ∧ Rd H b (.dK ls) ∧ ks.length = ls.length ∧ (∀ p ∈ ks, valV ls p.1 = some p.2 ∧ flatB p.2 = true) ∧ Q (.bl false) H
theorem op_neK {X : Cx} (hu : X.A.units < cLine) : OpR X (compareOp .NotEq) rNeK := by
  intro pins s σ H x y v u Q I rx ry h
  obtain ⟨a, b, ks, ls, rfl, rfl, ea, eb, hlen, hp, q⟩ := h
  obtain rfl : v = Value.ref a := rx
  obtain rfl : u = Value.ref b := ry
  obtain ⟨_, ya, va, ra, da⟩ := (show ObjOk X.prog X.w H s.heap a (.dK ks) from ea.ok I.hok)
  obtain ⟨_, yb, vb, rb, db⟩ := (show ObjOk X.prog X.w H s.heap b (.dK ls) from eb.ok I.hok)
  have hl : va.length = vb.length := by rw [← ra.length, ← rb.length]; exact hlen
  exact PySem.W.keq_ne (knd := mixKind X.prog X.w) (r := true) ya yb da db hu (fun _ => hits_all rb ra hp) (fin_bl I q (by simp [hl]))
/-- both have the same numbers at the same keys, in whatever order -/
def gNeK : PyData → PyData → (PyData → Prop) → Prop := fun x y Q => ∃ ds es, x = .dict ds ∧ y = .dict es ∧ isO ds = false ∧ isO es = false ∧ ds.length = es.length ∧ (∀ z ∈ ds, ∃ (k : L2.Key) (i : Int), z = (Vc.kD k, .int i) ∧ lookD es k = some (.int i)) ∧ Q (.bool false)
theorem pair_mem {A : Addr → Prop} {H : Hp} : ∀ {kvs : List (L2.Key × V)} {ds : List (PyData × PyData)}, DqA A H (kvs.map fun z => kV z.1) (ds.map (·.1)) → DqA A H (kvs.map (·.2)) (ds.map (·.2)) → ∀ p ∈ kvs, ∃ z ∈ ds, Dq A H (kV p.1) z.1 ∧ Dq A H p.2 z.2
  | [], _, _, _, p, hp => absurd hp (by simp)
  | q :: kvs, (a, b) :: ds, .cons h1 t1, .cons h2 t2, p, hp => by
    rcases List.mem_cons.mp hp with rfl | hp
    · exact ⟨(a, b), List.mem_cons_self, h1, h2⟩
    · obtain ⟨z, hz, r⟩ := pair_mem t1 t2 p hp
      exact ⟨z, List.mem_cons_of_mem _ hz, r⟩
theorem opd_neK {S : Stt} : OpD S rNeK gNeK := fun {m Γ σ H x y dx dy Q R} ok E ox oy k q => by
  obtain ⟨ds, es, rfl, rfl, h1, h2, hl, hk, k⟩ := k
  obtain ⟨a, ks, rfl, ra, _, o1, o2⟩ := Dq.dict ox h1
  obtain ⟨b, ls, rfl, rb, _, p1, p2⟩ := Dq.dict oy h2
  have l1 := o2.length
  have l2 := p2.length
  simp only [List.length_map] at l1 l2
  refine ⟨a, b, ks, ls, rfl, rfl, ra, rb, by omega, fun p hp => ?_, q _ H _ Stp.refl (.bl _) k⟩
  obtain ⟨z, hz, g1, g2⟩ := pair_mem o1 o2 p hp
  obtain ⟨j, i, ez, hj⟩ := hk z hz
  subst ez
  have e1 : p.1 = j := by
    have e := (keyEq_kV g1 (k := j)).mp (by
      cases j with
      | inl i => exact beq_self_eq_true i
      | inr s => exact beq_self_eq_true s)
    exact e
  have e2 : p.2 = .int i := by
    have g2 : Dq m.A H p.2 (.int i) := g2
    generalize p.2 = w at g2
    cases g2
    rfl
  obtain ⟨w, hw, ow⟩ := (look_val j p1 p2).2 _ hj
  cases ow
  rw [e1, e2]
  exact ⟨hw, rfl⟩
end Vc

set_option Elab.async false
set_option linter.all false
set_option maxRecDepth 100000
set_option maxHeartbeats 4000000
/-! The last of a list of its own, taken off. -/
namespace Vc
open PySem PySem.Spec PyProof.Rows L2 PySem.W Lh
/-- tg = x.pop() -/
def aPopTo (i : Nat) (ag : AG) : AS := fun En a => match a[i]? with
  | some (.l xs) => ∃ ys y, xs = ys ++ [y] ∧ ag y (a.set i (.l ys)) En.nx
  | _ => False
section
variable {X : Cx} {S : Stt} {κ : Bool} {i : Nat} {tg : TG} {ag : AG} {vs : List Nat} {K : Frag} {x : Str} {tge : Expr} {np apos cpos pos : Pos}
theorem DqA.last {A : Addr → Prop} {H : Hp} : ∀ {xs : List V} {ys : List PyData} {y : PyData}, DqA A H xs (ys ++ [y]) → ∃ zs v, xs = zs ++ [v] ∧ DqA A H zs ys ∧ Dq A H v y
  | _, [], y, .cons h .nil => ⟨[], _, rfl, .nil, h⟩
  | _, z :: ys, y, .cons h t => by
    obtain ⟨zs, v, e, h1, h2⟩ := DqA.last (ys := ys) t
    exact ⟨_ :: zs, v, by rw [e]; rfl, .cons h h1, h2⟩
theorem stw_popTo (hg : TgW S vs tg ag) : StW S κ 0 (tAsg (tBM0 K "list" rPop (tVar i)) tg) (aPopTo i ag) := fun F De En a σ H kr c ⟨m, Γ, f, mt, d, E⟩ h => by
  unfold aPopTo at h
  split at h
  · rename_i xs e
    obtain ⟨ys, y, ex, k⟩ := h
    subst ex
    obtain ⟨q, e⟩ := mt.l e
    obtain ⟨v, h1, rfl, k1, k2, k3, o, k4, zs, rfl, k5⟩ := E.sl i _ e
    obtain ⟨ws, w, ew, o1, o2⟩ := DqA.last k5
    subst ew
    refine ⟨_, h1, .inl ⟨rfl, _, .inl (.inl k4)⟩, q, ws ++ [w], w, rfl, rfl, k4, by simp, ?_⟩
    rw [List.dropLast_concat]
    have E0 : Env m kr Γ σ H := E.le
    have t : To m.A H m.A (upd H q (.lst ws)) := fun b u e n => ⟨by rw [upd_ne (fun z : b = q => n (z ▸ k1))]; exact e, n⟩
    have E2 := E0.rebox (b' := bL ys) e (d.alone e) ⟨ws, rfl, o1⟩
    obtain ⟨Γ', a', t1, mt1, fw, k1'⟩ := hg m _ _ y _ f.ok (mt.set (.l ys q)) k
    exact t1 kr σ _ w E2 (o2.to t) _ fun σ' E' _ => c.nx _ _ _ (Rep.at f (d.setB (d.alone e)) fw mt1 E') k1'
  · exact h.elim
theorem s_popTo (K : Frag) (i : Nat) (hg : PVG X S vs tge tg ag) (hN : X.N[i]? = some x := by rfl) (hv : Vis X.env.scope x := by first | exact Or.inl rfl | exact Or.inr (Or.inl rfl) | exact Or.inr (Or.inr rfl)) (hd : (x == ("__debug__" : Str)) = false := by decide)
    (hcd : (x == ("__classdict__" : Str)) = false := by decide) (hs : swapsWithSole [tge] (.Call (.Attribute (.Name x np) "pop" apos) [] [] cpos) pos.line X.env = pure false := by rfl) (hw : swappedStores [tge] (.Call (.Attribute (.Name x np) "pop" apos) [] [] cpos) X.env = pure none := by rfl) (ha : (assignEach [tge] X.env).map (·.2) = [assign tge X.env] := by rfl)
    (hb : attributeBase (.Name x np) "pop" X.env (eval (.Name x np) X.env) = eval (.Name x np) X.env := by rfl) (h3 : (apos.endLine == cpos.line) = true := by rfl) (hK : X.K = K := by rfl) :
    PVst X S κ 0 (.Assign [tge] (.Call (.Attribute (.Name x np) "pop" apos) [] [] cpos) pos) (tAsg (tBM0 K "list" rPop (tVar i)) tg) (aPopTo i ag) :=
  ⟨ps_asg (k_bm0 K PySem.F.plainAttrs_list PySem.F.slot_list_pop PySem.F.type_list_pop mt_pop (pe_var hN hv hd hcd) hb h3 hK) hg.pe hs hw ha, stw_popTo hg.ev⟩
end
end Vc

set_option Elab.async false
set_option linter.all false
set_option maxRecDepth 100000
set_option maxHeartbeats 4000000
/-! Texts cut up, and read as numbers. -/
namespace Vc
open PySem PySem.Spec PyProof.Rows L2 PySem.W Lh
/-- a.split(b) -/
def aSplit (fa fb : AE) : AN := fun a Q => fa a fun x => ∃ s, x = .str s ∧ fb a fun y => ∃ t, y = .str t ∧ (t.length == 0) = false ∧ s.length + 2 ≤ sizeLine ∧ Q ((Txt.split s t).map .str)
/-- a.partition(b) -/
def aPart (fa fb : AE) : AE := fun a Q => fa a fun x => ∃ s, x = .str s ∧ fb a fun y => ∃ t, y = .str t ∧ (t.length == 0) = false ∧ s.length ≤ sizeLine ∧ Q (.tuple [.str (Txt.partition s t).1, .str (Txt.partition s t).2.1, .str (Txt.partition s t).2.2])
/-- a.startswith(b) -/
def aStarts (fa fb : AE) : AE := fun a Q => fa a fun x => ∃ s, x = .str s ∧ fb a fun y => ∃ t, y = .str t ∧ Q (.bool (Txt.startswith s t))
/-- int(a), a text -/
def gIntS : List PyData → (PyData → Prop) → Prop := fun ds Q => ∃ s n, ds = [.str s] ∧ PySem.intText? s = some n ∧ s.length ≤ 640 ∧ Q (.int n)
section
variable {X : Cx} {S : Stt} {o e : Expr} {to te : TE} {fa fe : AE} {apos pos : Pos}
theorem n_split (h : PV X S c_o o to fa) (h2 : PV X S c_e e te fe) (hs : starEach [e] X.env = [(false, eval e X.env)] := by rfl) (hbase : attributeBase o "split" X.env (eval o X.env) = eval o X.env := by rfl) (hline : (apos.endLine == pos.line) = true := by rfl) :
    PVN X S (c_o + c_e) (.Call (.Attribute o "split" apos) [e] [] pos) (tM1 (fun x xs H Q => ∃ a b, x = .str a ∧ xs = [.str b] ∧ (b.length == 0) = false ∧ a.length + 2 ≤ sizeLine ∧ rNewStrs (Txt.split a b) H Q) to te) (aSplit fa fe) :=
  ⟨pe_split h.pe h2.pe hs hbase hline, fun m Γ a Q ok mt hh σ H E R q => h.ev m Γ a _ ok mt hh σ H E.le _ fun v H1 s1 ⟨d, od, s, ed, k⟩ => by
    subst ed
    cases od
    refine ⟨⟨s, rfl⟩, h2.ev m Γ a _ ok mt k σ H1 (E.step s1) _ fun w H2 s2 ⟨d2, od2, t, et, h0, hl, k2⟩ => ?_⟩
    subst et
    cases od2
    exact ⟨s, t, rfl, rfl, h0, hl, new_fresh E (s1.trans s2).le (DqA.of_strs) k2 q⟩⟩
theorem e_part (h : PV X S c_o o to fa) (h2 : PV X S c_e e te fe) (hs : starEach [e] X.env = [(false, eval e X.env)] := by rfl) (hbase : attributeBase o "partition" X.env (eval o X.env) = eval o X.env := by rfl) (hline : (apos.endLine == pos.line) = true := by rfl) :
    PV X S (c_o + c_e) (.Call (.Attribute o "partition" apos) [e] [] pos) (tM1 (fun x xs H Q => ∃ a b, x = .str a ∧ xs = [.str b] ∧ (b.length == 0) = false ∧ a.length ≤ sizeLine ∧
      ∀ p, H p = none → Q (.ref p) (upd H p (.tup [.str (Txt.partition a b).1, .str (Txt.partition a b).2.1, .str (Txt.partition a b).2.2]))) to te) (aPart fa fe) :=
  ⟨pe_partition h.pe h2.pe hs hbase hline, fun m Γ a Q ok mt hh σ H E R q => h.ev m Γ a _ ok mt hh σ H E.le _ fun v H1 s1 ⟨d, od, s, ed, k⟩ => by
    subst ed
    cases od
    refine ⟨⟨s, rfl⟩, h2.ev m Γ a _ ok mt k σ H1 (E.step s1) _ fun w H2 s2 ⟨d2, od2, t, et, h0, hl, k2⟩ => ?_⟩
    subst et
    cases od2
    refine ⟨s, t, rfl, rfl, h0, hl, fun p hp => q _ _ ((s1.trans s2).trans (Stp.new hp)).le ⟨_, Dq.newT ((E.step (r := 0) (s1.trans s2)).free hp) hp (.cons (.str _) (.cons (.str _) (.cons (.str _) .nil))), k2⟩⟩⟩
theorem e_starts (h : PV X S c_o o to fa) (h2 : PV X S c_e e te fe) (hs : starEach [e] X.env = [(false, eval e X.env)] := by rfl) (hbase : attributeBase o "startswith" X.env (eval o X.env) = eval o X.env := by rfl) (hline : (apos.endLine == pos.line) = true := by rfl) :
    PV X S (c_o + c_e) (.Call (.Attribute o "startswith" apos) [e] [] pos) (tM1 (fun x xs H Q => ∃ a b, x = .str a ∧ xs = [.str b] ∧ Q (.bl (Txt.startswith a b)) H) to te) (aStarts fa fe) :=
  ⟨pe_m1 F.slot_str_startswith F.type_str_startswith mt_startswith h.pe h2.pe hs hbase hline, fun m Γ a Q ok mt hh σ H E R q => h.ev m Γ a _ ok mt hh σ H E.le _ fun v H1 s1 ⟨d, od, s, ed, k⟩ => by
    subst ed
    cases od
    refine ⟨⟨s, rfl⟩, h2.ev m Γ a _ ok mt k σ H1 (E.step s1) _ fun w H2 s2 ⟨d2, od2, t, et, k2⟩ => ?_⟩
    subst et
    cases od2
    exact ⟨s, t, rfl, rfl, q _ H2 (s1.trans s2).le ⟨_, .bl _, k2⟩⟩⟩
theorem ar_intS : ArD S (fun xs H Q => ∃ a n, xs = [.str a] ∧ PySem.intText? a = some n ∧ a.length ≤ 640 ∧ Q (.int n) H) gIntS := fun {m Γ σ H vs ds Q R} ok E o k q => by
  obtain ⟨s, n, e, hn, hl, k⟩ := k
  subst e
  obtain ⟨v, rfl, a⟩ := dqa1 o
  cases a
  exact ⟨s, n, rfl, hn, hl, q _ H _ Stp.refl (.int _) k⟩
end
end Vc

set_option Elab.async false
set_option linter.all false
set_option maxRecDepth 100000
set_option maxHeartbeats 2000000
/-! len(x) by an own __len__. -/
namespace Vc
open PySem PySem.Spec PyProof.Rows L2 PySem.W Lh
section
variable {prog : Program} {w : World} {A : Around} {E : Value → Shared → Prop} {s : Shared} {K : Frag} {x C f : Addr} {ox : Obj} {od : Option Obj} {name : Str}
theorem special_fn {args : List Value} {Q : Option Value → Shared → Prop} (X : K.In s.heap) (I : PySem.W.InstAt s.heap x ox C od) (hs : PySem.W.findIn K (.ref C) name = some (some (.ref f))) (hf : PySem.W.isFn K (.ref f) = true)
    (h : wpAny (model prog w) A (call (.ref f) (.ref x :: args)) (fun v => Q (some v)) E s) : wpAny (model prog w) A (callSpecial? (.ref x) name args) Q E s := by
  unfold callSpecial? specialOf
  refine wpAny_bind (wpAny_bind (I.type.here ((PySem.W.looks_findIn X hs).here ?_)))
  refine wpAny_holding (wpAny_bind ((PySem.W.bind_fn X _ (beq_iff_eq.mp hf)).here ?_))
  exact wpAny_bind (wpAny_mono h (fun v s' h' => wpAny_pure h') fun _ _ h' => h')
end
/-- what len asks of an instance: its own def gives a number that fits -/
def rLenO (C : Addr) (sp : Sp) (Ex : XK) : List V → Hp → VK → Prop := fun xs H Q => ∃ (a dx : Addr) (fs : List (Str × V)), xs = [.ref a] ∧ H a = some (.ins C dx fs) ∧ sp xs H (fun v H' => ∃ n : Int, v = .int n ∧ 0 ≤ n ∧ n < 2 ^ 62 ∧ Q (.int n) H') Ex
theorem call_lenO {X : Cx} {CX : CXT} {C f : Addr} {fd : FuncData} {ps : List Str} {sp : Sp} {Ex : XK} {k : Nat} (F : FnOk X.prog X.w X.K X.mg X.base CX k f fd ps sp) (hr : Room (k + 1) X.A)
    (hs : PySem.W.findIn X.K (.ref C) "__len__" = some (some (.ref f))) (hf : PySem.W.isFn X.K (.ref f) = true) (hb : Binds X.K fd ps []) (hx : Passes CX X Ex) : CallR X (.builtin "len") (rLenO C sp Ex) := by
  intro pins s σ H xs us Q I r h
  obtain ⟨a, dx, fs, rfl, ha, hsp⟩ := h
  obtain ⟨u, rfl, ru⟩ := vals1 r
  obtain rfl : u = Value.ref a := ru
  obtain ⟨mA, J, _⟩ := ins_get I.hok ha
  obtain ⟨od, J, _⟩ := J.look
  refine Calls.call_function_entry kind_len plain_len entry_len (args_len1 _) ?_
  unfold Builtin.«len»
  refine wpAny_bind (m := oneArg "len" _) (wpAny_pure ?_)
  refine wpAny_bind (m := callSpecial? (.ref a) (PySem.Str.ofString "__len__")) (special_fn I.kIn J hs hf ?_)
  have e0 : Env0 X.prog X.w X.K X.mg X.base X.A.in1 X.stack s H := by
    have e := I.env0
    exact ⟨e.frames, e.mod, e.bs, e.bsz, e.funs, e.frf, e.hok, e.bare⟩
  have hl := F.len _ _ _ _ hsp
  have r2 : Vals [V.ref a] [Value.ref a] := .cons rfl .nil
  refine wpAny_call (codeAny_mono (F.run X.A.in1 X.stack s H ⟨[.ref a], []⟩ [.ref a] [.ref a] _ Ex hr.in1 e0 (by
    have := hb s [.ref a] I.kIn (by simpa using hl)
    simpa using this) r2 hsp) fun r s' hq => ?_)
  cases r with
  | error e => exact hx pins σ H s e s' I hq
  | ok fl =>
    cases fl with
    | ret w =>
      obtain ⟨z, H', I', rz, n, rfl, h0, h62, q⟩ := I.after hq
      obtain ⟨t, rfl⟩ := rz
      refine wpAny_bind (wpAny_holding (wpAny_pure ?_))
      refine wpAny_bind (wpAny_letGo ?_)
      show wpAny _ _ (if n < 0 then _ else _) _ _ _
      rw [if_neg (by omega)]
      show wpAny _ _ (if n ≥ 2 ^ 63 then _ else _) _ _ _
      rw [if_neg (by omega)]
      exact wpAny_bind (wpAny_mkInt (wpAny_pure ⟨_, rfl, .int n, H', I'.tok _, ⟨_, rfl⟩, q⟩))
    | next => exact False.elim hq
    | brk => exact False.elim hq
    | cont => exact False.elim hq
/-- len(x), x an instance -/
def aLenO (C : Addr) (ns : List Str) (W : List PyData → (PyData → Prop) → Prop) (fe : AE) : AE := fun a Q => fe a fun x => ∃ es, x = objD C ns es ∧ W [x] fun d => ∃ n : Int, d = .int n ∧ 0 ≤ n ∧ n < 2 ^ 62 ∧ Q (.int n)
section
variable {S : Stt} {te : TE} {fe : AE} {C : Addr} {ns : List Str} {Ex : XK}
theorem evw_lenO {W : List PyData → (PyData → Prop) → Prop} (h : EvW S c_te te fe) : EvW S c_te (tCB (rLenO C (spW S.cs false W) Ex) (tCons te tNil)) (aLenO C ns W fe) := fun m Γ a Q ok mt hh σ H E R q =>
  h m Γ a _ ok mt hh σ H E.le _ fun v H1 s ⟨x, o, es, e, k⟩ => by
    subst e
    obtain ⟨b, dx, fs, rfl, hb, _, hf, hd⟩ := Dq.ins o
    have E1 : Env m 0 Γ σ H1 := E.step s
    refine ⟨b, dx, fs, rfl, hb, m.A, [_], _, .cons o .nil, E1.trk, fun c hc => E1.ex _ (ok.cs c hc), k, fun v d H3 kp r p => ?_⟩
    obtain ⟨n, rfl, h0, h62, p⟩ := p
    rcases r with ⟨_, r⟩ | ⟨z, _⟩
    · cases r
      exact ⟨n, rfl, h0, h62, q _ H3 (s.trans (Stp.ext kp)).le ⟨_, .int n, p⟩⟩
    · cases z
theorem e_lenO {X : Cx} {CX : CXT} {f : Addr} {fd : FuncData} {ps : List Str} {k : Nat} {e : Expr} {p pos : Pos} {W : List PyData → (PyData → Prop) → Prop} {cs : List (Addr × PyData)} (hS : S.cs = cs) (K : Frag) (M : Meth K C "__len__" f) (F : FnOk X.prog X.w X.K X.mg X.base CX k f fd ps (spW cs false W)) (hr : Room (k + 1) X.A)
    (hb : Binds X.K fd ps []) (hx : Passes CX X Ex) (hm : X.mg "len" = none) (h : PV X S c_te e te fe) (hg : Gl X "len" := by rfl) (hK : X.K = K := by rfl)
    (hs : starEach [e] X.env = (false, eval e X.env) :: starEach [] X.env := by rfl) (hpl : (backTo pos (starEach [] X.env)).any (·.1) = false := by rfl) :
    PV X S c_te (.Call (.Name "len" p) [e] [] pos) (tCB (rLenO C (spW cs false W) Ex) (tCons te tNil)) (aLenO C ns W fe) := by
  subst hS
  subst hK
  exact ⟨pe_callB (call_lenO F hr M.at_ M.fn hb hx) hg hm (by decide +kernel) (pa_cons h.pe pa_nil hs) (by decide) (by decide) hs hpl, evw_lenO h.ev⟩
end
end Vc

set_option Elab.async false
set_option linter.all false
set_option maxRecDepth 100000
set_option maxHeartbeats 2000000
/-! A number with its sign, as a part of a text. -/
namespace Vc
open PySem PySem.Spec PyProof.Rows L2 PySem.W Lh
open PySem.Builtin PySem.Builtin.Float
/-- a number's text with its sign, as signs -/
def plusS (a : Int) : Str := ⟨((if a < 0 then [45] else [43]) ++ (Nat.toDigits 10 a.natAbs).map Char.toNat : List Nat).toArray⟩
def f0 : FormatSpec := { align := 62, sign := some 43, type := some 100 }
theorem field_plus (a : Int) : PyProof.Rows.intField' f0 (decide (a < 0)) [] ((Nat.toDigits 10 a.natAbs).map fun c => (if (100 : Nat) == 88 then c.toUpper else c).toNat) [] 3 = plusS a := by
  have e : ((Nat.toDigits 10 a.natAbs).map fun c => (if (100 : Nat) == 88 then c.toUpper else c).toNat) = (Nat.toDigits 10 a.natAbs).map Char.toNat := List.map_congr_left fun c _ => rfl
  rw [e]
  unfold plusS
  generalize (Nat.toDigits 10 a.natAbs).map Char.toNat = D
  unfold PyProof.Rows.intField'
  have hpad : ∀ n m : Nat, ((-1 : Int) - ((n : Int) + 0 + 0) - (m : Int)).toNat = 0 := fun n m => by omega
  cases D with
  | nil => by_cases h : a < 0 <;> simp [f0, h]
  | cons d D => by_cases h : a < 0 <;> simp [f0, h] <;> omega
theorem parse_plus : parseFormatSpec ("+d" : Str).cps.toList "int" 62 = .ok f0 := by kernel_rfl
section
variable {prog : Program} {w : World} {A : Around} {E : Value → Shared → Prop} {s : Shared}
theorem fmt_plus {a : Int} {t : Tok} {Q : Value → Shared → Prop} (hlt : a.natAbs.log2 < 1920) (hl : (plusS a).length ≤ sizeLine)
    (h : Q (.str (plusS a) (s.toks + 1)) { s with toks := s.toks + 1 + 1 }) : wpAny (model prog w) A (formatField (.int a t) "+d") Q E s := by
  have hne : (("+d" : Str).length == 0) = false := by decide +kernel
  have hasc : ((("+d" : Str).cps.toList.drop 1).any (· ≥ 128) || (("+d" : Str).cps.getD 0 0 ≥ 128 && !([60, 62, 61, 94] : List Nat).contains (("+d" : Str).cps.getD 1 0))) = false := by decide +kernel
  have hsz : ("+d" : Str).length ≤ sizeLine := by rw [sizeLine_eq]; decide +kernel
  have hty : f0.type.getD (if ("+d" : Str).cps.back? == some 0 then 0 else 100) = 100 := by decide +kernel
  have hp := parse_plus
  generalize ("+d" : Str) = spec at hne hasc hsz hty hp ⊢
  show wpAny _ _ (holding [.int a t] (pyFormat (.int a t) spec)) Q E s
  refine wpAny_holding ?_
  unfold pyFormat
  refine wpAny_bind (wpAny_mkStr ?_ hsz)
  refine wpAny_bind (m := callSpecial? (.int a t) (Str.ofString "__format__") [.str spec s.toks]) (wpAny_callSpecial?_slot (name := Str.ofString "__format__") (typeIs_int _ a t) F.slot_int_format ?_)
  refine wpAny_call (codeAny_call_builtin F.slot_int_format.plain F.entry_int_format (F.slot_int_format.check _ _ _ _ _ _ _ _ (typeIs_int _ a t) (F.args_int_format_2 _ _) ?_))
  unfold Builtin.«int.__format__»
  simp only [selfAndOne, noKeywords, Int.intOfSelf, asInt?, asStr?, List.isEmpty_nil, if_true, pure_bind, bind_pure, bind_assoc, hne, hasc, Bool.false_eq_true, if_false,
    show (Value.str spec s.toks == Value.none) = false from rfl]
  refine wpAny_bind (wpAny_typeNameOf (T := "str") (typeIs_str _ _ _) (by decide) fun _ => ?_)
  first | refine wpAny_bind (wpAny_typeNameOfCut_int ?_) | refine wpAny_bind (wpAny_typeNameOf_int ?_)
  simp only [hp, hty]
  rw [if_pos (by decide)]
  show wpAny _ _ (Builtin.overDigitLimit? a >>= _) _ _ _
  refine wpAny_bind (wpAny_of_eq (PySem.overDigitLimit_small hlt) ?_)
  show wpAny _ _ (retStr _) _ _ _
  have hF := field_plus a
  have ha : f0.alt = false := rfl
  have e10 : ((10 : Nat) == 10) = true := by decide
  simp only [ha, Bool.false_eq_true, if_false, e10, if_true]
  generalize (Nat.toDigits 10 a.natAbs).map (fun c => (if ((100 : Nat) == 88) = true then c.toUpper else c).toNat) = D at hF ⊢
  generalize decide (a < 0) = b at hF ⊢
  show wpAny _ _ (retStr (PyProof.Rows.intField' f0 b [] D [] 3)) _ _ _
  rw [hF]
  unfold retStr
  refine wpAny_bind (wpAny_mkStr (wpAny_pure ?_) hl)
  dsimp only
  exact wpAny_bind (wpAny_isInstance (typeIs_str _ _ _) isSubtype_str_str (wpAny_pure h))
end
theorem plus_len {i : Int} (h : i.natAbs < 10 ^ 18) : i.natAbs.log2 < 1920 ∧ (plusS i).length ≤ sizeLine := by
  refine ⟨?_, ?_⟩
  · by_cases h0 : i.natAbs = 0
    · rw [h0]
      decide
    · exact Nat.lt_of_lt_of_le ((Nat.log2_lt h0).mpr (Nat.lt_of_lt_of_le h (by decide : 10 ^ 18 ≤ 2 ^ 64))) (by decide)
  · have h1 := PyProof.Rows.digits10_le (k := 18) (by decide) h
    unfold plusS
    show (List.toArray _).size ≤ _
    rw [List.size_toArray, List.length_append, List.length_map, sizeLine_eq]
    have : (if i < 0 then [45] else [43] : List Nat).length = 1 := by split <;> rfl
    omega
section
variable {X : Cx} {S : Stt} {e sp : Expr} {es : List Expr} {te : TE} {ts : List TE} {fe : AE} {pos : Pos}
def tFmtP (te : TE) : TE := fun σ H Q => te σ H fun x H1 => ∃ i : Int, x = .int i ∧ i.natAbs < 10 ^ 18 ∧ Q (.str (plusS i)) H1
theorem pe_fmtP (he : PE X e te) (hs : PE X sp (tC (.str "+d"))) : PE X (.FormattedValue e (-1) (some sp) pos) (tFmtP te) := by
  refine ⟨fun pins s σ H Q I h => ?_⟩
  refine wpAny_FormattedValue_spec (thn (he.run pins s σ H _ I h) fun v s1 hv => ?_)
  obtain ⟨x, H1, I1, r1, i, rfl, hi, q⟩ := hv
  obtain ⟨t, rfl⟩ := r1
  refine thn (hs.run pins s1 σ H1 (fun y H2 => y = .str "+d" ∧ Q (.str (plusS i)) H2) I1 ⟨rfl, q⟩) fun v s2 hv => ?_
  obtain ⟨y, H2, I2, r2, rfl, q2⟩ := hv
  obtain ⟨t2, rfl⟩ := r2
  exact ⟨_, t2, rfl, fmt_plus (plus_len hi).1 (plus_len hi).2 ⟨.str (plusS i), H2, I2.tok _, ⟨_, rfl⟩, q2⟩⟩
def aFmtP (fe : AE) : AE := fun a Q => fe a fun x => ∃ i : Int, x = .int i ∧ i.natAbs < 10 ^ 18 ∧ Q (.str (plusS i))
def aFmtS (fe : AE) : AE := fun a Q => fe a fun x => ∃ y : Str, x = .str y ∧ y.length ≤ sizeLine ∧ Q (.str y)
theorem evw_fmtP (h : EvW S c_te te fe) : EvW S c_te (tFmtP te) (aFmtP fe) := fun m Γ a Q ok mt hh σ H E R q =>
  h m Γ a _ ok mt hh σ H E.le _ fun v H1 s ⟨x, o, i, e, hi, k⟩ => by
    subst e
    cases o
    exact ⟨i, rfl, hi, q _ H1 s ⟨_, .str _, k⟩⟩
theorem evw_fmtS (h : EvW S c_te te fe) : EvW S c_te (tFmt te) (aFmtS fe) := fun m Γ a Q ok mt hh σ H E R q =>
  h m Γ a _ ok mt hh σ H E.le _ fun v H1 s ⟨x, o, y, e, hy, k⟩ => by
    subst e
    cases o
    exact .inl ⟨y, rfl, hy, q _ H1 s ⟨_, .str _, k⟩⟩
theorem e_fmtP {p q : Pos} {kk : Nat} (h : PV X S c_te e te fe) : PV X S c_te (.FormattedValue e (-1) (some (.JoinedStr [.Constant (.str "+d") kk p] q)) pos) (tFmtP te) (aFmtP fe) := ⟨pe_fmtP h.pe (pe_joined1 pe_str), evw_fmtP h.ev⟩
theorem e_fmtS (h : PV X S c_te e te fe) : PV X S c_te (.FormattedValue e (-1) none pos) (tFmt te) (aFmtS fe) := ⟨pe_fmt h.pe, evw_fmtS h.ev⟩
abbrev AJ := Sg → Str → (Str → Prop) → Prop
def EvJ (S : Stt) (c : Nat) (ts : List TE) (aj : AJ) : Prop := ∀ m Γ a Q (acc : Str), Ok S m → Mt S.p a Γ → aj a acc Q → ∀ σ H, Env m c Γ σ H → ∀ R : Str → Hp → Prop, (∀ s H', Stp m c H H' → Q s → R s H') → tJs ts acc σ H R
structure PVJ (X : Cx) (S : Stt) (c : Nat) (es : List Expr) (ts : List TE) (aj : AJ) : Prop where
  pe : PJ X es ts
  ev : EvJ S c ts aj
def ajNil : AJ := fun _ acc Q => Q acc
def ajCons (fe : AE) (r : AJ) : AJ := fun a acc Q => fe a fun x => ∃ y : Str, x = .str y ∧ (acc ++ y).length ≤ sizeLine ∧ r a (acc ++ y) Q
def aJoined (r : AJ) : AE := fun a Q => r a Str.empty fun s => Q (.str s)
theorem evj_nil : EvJ S 0 [] ajNil := fun m Γ a Q acc ok mt hh σ H E R q => q acc H Stp.refl hh
theorem evj_cons {aj : AJ} (h : EvW S c_te te fe) (r : EvJ S c_ts ts aj) : EvJ S (c_te + c_ts) (te :: ts) (ajCons fe aj) := fun m Γ a Q acc ok mt hh σ H E R q =>
  h m Γ a _ ok mt hh σ H E.le _ fun v H1 s ⟨x, o, y, e, hy, k⟩ => by
    subst e
    cases o
    exact ⟨y, rfl, hy, r m Γ a Q _ ok mt k σ H1 (E.step s) R fun z H2 s2 k2 => q z H2 (s.trans s2) k2⟩
theorem j_nil : PVJ X S 0 [] [] ajNil := ⟨.nil, evj_nil⟩
theorem j_cons {aj : AJ} (h : PV X S c_te e te fe) (r : PVJ X S c_ts es ts aj) : PVJ X S (c_te + c_ts) (e :: es) (te :: ts) (ajCons fe aj) := ⟨.cons h.pe r.pe, evj_cons h.ev r.ev⟩
theorem e_joined {aj : AJ} {v1 v2 : Expr} (h : PVJ X S c (v1 :: v2 :: es) ts aj) : PV X S c (.JoinedStr (v1 :: v2 :: es) pos) (fun σ H Q => tJs ts Str.empty σ H fun out H1 => Q (.str out) H1) (aJoined aj) :=
  ⟨pe_joined h.pe, fun m Γ a Q ok mt hh σ H E R q => h.ev m Γ a _ _ ok mt hh σ H E _ fun s H' st k => q (.str s) H' st ⟨_, .str s, k⟩⟩
end
end Vc

set_option Elab.async false
set_option linter.all false
set_option maxRecDepth 100000
set_option maxHeartbeats 2000000
/-! == of two instances of an own class with an own __eq__, where it gives True. -/
namespace Vc
open PySem PySem.Spec PyProof.Rows L2 PySem.W Lh
/-- the own def says True of the two -/
def REq (cs : List (Addr × PyData)) (W : List PyData → (PyData → Prop) → Prop) (a b : Addr) (H : Hp) : Prop :=
  ∃ (A : Addr → Prop) (x y : PyData), Dq A H (.ref a) x ∧ Dq A H (.ref b) y ∧ (∀ a, A a → Tk (H a)) ∧ (∀ c ∈ cs, Dq A H (.ref c.1) c.2) ∧ W [x, y] (· = .bool true)
def gEqO (C : Addr) (ns : List Str) (W : List PyData → (PyData → Prop) → Prop) : PyData → PyData → (PyData → Prop) → Prop := fun x y Q =>
  ∃ es es', x = objD C ns es ∧ y = objD C ns es' ∧ W [x, y] (· = .bool true) ∧ Q (.bool true)
section
variable {P : Program} {w : World} {K : Frag} {mg : Str → Option Value} {base : Heap} {CX : CXT} {cs : List (Addr × PyData)} {C f : Addr} {fd : FuncData} {ps : List Str} {k : Nat} {W : List PyData → (PyData → Prop) → Prop} {ns : List Str}
theorem fn_eq (F : FnOk P w K mg base CX k f fd ps (spW cs false W)) : FnOk P w K mg base CX k f fd ps (spEq (REq cs W)) := by
  have key : ∀ vs H Q E, spEq (REq cs W) vs H Q E → spW cs false W vs H Q E := fun vs H Q E h => by
    obtain ⟨a, b, rfl, ⟨A, x, y, hx, hy, ht, hc, hw⟩, q⟩ := h
    refine ⟨A, [x, y], _, .cons hx (.cons hy .nil), ht, hc, hw, fun v d H' kp r p => ?_⟩
    subst p
    rcases r with ⟨_, r⟩ | ⟨z, _⟩
    · cases r
      exact q H' kp
    · cases z
  exact ⟨fun vs H Q E x => F.len _ _ _ _ (key _ _ _ _ x), fun A st s H args us vs Q E hr e0 b r x => F.run A st s H args us vs Q E hr e0 b r (key _ _ _ _ x)⟩
theorem k_eqO {X : Cx} {E : XK} (F : FnOk X.prog X.w X.K X.mg X.base CX k f fd ps (spW cs false W)) (hr : Room k X.A) (M : Meth X.K C "__eq__" f) (hb : Binds X.K fd ps []) (hx : Passes CX X E) : OpR X (compareOp .Eq) (rEqG (DIns C (REq cs W))) :=
  op_eqG (rcG_ins (fn_eq F) M.at_ M.fn hb hx) hr
theorem opd_eqO {S : Stt} (hS : S.cs = cs) : OpD S (rEqG (DIns C (REq cs W))) (gEqO C ns W) := fun {m Γ σ H x y dx dy Q R} ok E ox oy k q => by
  subst hS
  obtain ⟨es, es', rfl, rfl, hw, k⟩ := k
  obtain ⟨a, da, fa, rfl, ha, _, _, _⟩ := Dq.ins ox
  obtain ⟨b, db, fb, rfl, hb, _, _, _⟩ := Dq.ins oy
  exact ⟨⟨a, b, da, db, fa, fb, rfl, rfl, ha, hb, m.A, _, _, ox, oy, E.trk, fun c hc => E.ex _ (ok.cs c hc), hw⟩, fun H' e => q _ H' _ (Stp.ext e) (.bl true) k⟩
end
end Vc

set_option Elab.async false
set_option linter.all false
set_option maxRecDepth 100000
set_option maxHeartbeats 2000000
/-! Exceptions of own classes: what a def lets out as data, raise, calls that may raise, try around one call. -/
namespace Vc
open PySem PySem.Spec PyProof.Rows L2 PySem.W Lh
/-- an exception as data: its class, its fields -/
structure Xd where
  C : Addr
  fs : List (Str × PyData)
def XOk (A : Addr → Prop) (H : Hp) (cls : Value) (d : Option Addr) (x : Xd) : Prop :=
  cls = .ref x.C ∧ ((x.fs = [] ∧ d = none) ∨ ∃ dd vs, d = some dd ∧ H dd = some (.xd vs) ∧ vs.map Prod.fst = x.fs.map Prod.fst ∧ DqA A H (vs.map Prod.snd) (x.fs.map Prod.snd))
theorem XOk.sub {A A' : Addr → Prop} {H : Hp} {cls : Value} {d : Option Addr} {x : Xd} (h : XOk A H cls d x) (k : ∀ a, A' a → A a) : XOk A' H cls d x := by
  obtain ⟨e, h | ⟨dd, vs, e1, e2, e3, e4⟩⟩ := h
  · exact ⟨e, .inl h⟩
  · exact ⟨e, .inr ⟨dd, vs, e1, e2, e3, e4.to fun a o h n => ⟨h, fun z => n (k a z)⟩⟩⟩
/-- what a def of data asks, where exceptions of its own may come out -/
abbrev W3 := List PyData → (Xd → Prop) → (PyData → Prop) → Prop
def spX (cs : List (Addr × PyData)) (κ : Bool) (W : W3) : Sp := fun vs H Q E => ∃ A ds R P, DqA A H vs ds ∧ (∀ a, A a → Tk (H a)) ∧ (∀ c ∈ cs, Dq A H (.ref c.1) c.2) ∧ W ds R P ∧
  (∀ v d H', (∀ a o, H a = some o → H' a = some o) → RetOk κ A H v H' d → P d → Q v H') ∧ ∀ cls dd x H', (∀ a o, H a = some o → H' a = some o) → XOk A H' cls dd x → R x → E cls dd H'
theorem fn_weakX {P : Program} {w : World} {K : Frag} {mg : Str → Option Value} {base : Heap} {CX : CXT} {k : Nat} {f : Addr} {fd : FuncData} {ps : List Str} {sp sp' : Sp} (F : FnOk P w K mg base CX k f fd ps sp) (h : ∀ vs H Q E, sp' vs H Q E → sp vs H Q E) : FnOk P w K mg base CX k f fd ps sp' :=
  ⟨fun vs H Q E x => F.len _ _ _ _ (h _ _ _ _ x), fun A st s H args us vs Q E hr e0 b r x => F.run A st s H args us vs Q E hr e0 b r (h _ _ _ _ x)⟩
/-- where nothing is to come out -/
theorem fn_calm {P : Program} {w : World} {K : Frag} {mg : Str → Option Value} {base : Heap} {CX : CXT} {k : Nat} {f : Addr} {fd : FuncData} {ps : List Str} {cs : List (Addr × PyData)} {κ : Bool} {W : W3} (F : FnOk P w K mg base CX k f fd ps (spX cs κ W)) : FnOk P w K mg base CX k f fd ps (spW cs κ fun ds Q => W ds (fun _ => False) Q) :=
  fn_weakX F fun vs H Q E ⟨A, ds, P, h1, h2, h3, h4, h5⟩ => ⟨A, ds, fun _ => False, P, h1, h2, h3, h4, h5, fun _ _ _ _ _ _ z => z.elim⟩
theorem passF {X : Cx} : Passes (L2.CX X.prog X.w) X (fun _ _ _ => False) := fun _ _ _ _ _ _ _ c => by
  obtain ⟨_, _, _, _, _, _, _, _, _, _, _, _, z⟩ := c
  exact z.elim
/-! ### statements -/
def CompX (S : Stt) (F : Fa) (W : WX) (R : Xd → Prop) : Prop := ∀ a σ H cls d x, Rep S F 0 a σ H → XOk F.A H cls d x → R x → W cls d σ H
abbrev AX := (Xd → Prop) → AS
def StX (S : Stt) (κ : Bool) (c : Nat) (ts : WX → TS) (as : AX) : Prop := ∀ F De En a σ H kr W R, Comp S F κ kr De En → CompX S F W R → Rep S F (c + kr) a σ H → as R En a → ts W De σ H
structure PXst (X : Cx) (S : Stt) (κ : Bool) (c : Nat) (st : Stmt) (ts : WX → TS) (as : AX) : Prop where
  pe : ∀ W, Takes X W → PS X st (ts W)
  ev : StX S κ c ts as
structure PXss (X : Cx) (S : Stt) (κ : Bool) (c : Nat) (sts : List Stmt) (ts : WX → TS) (as : AX) : Prop where
  pe : ∀ W, Takes X W → PSs X sts (ts W)
  ev : StX S κ c ts as
def xC (as : AS) : AX := fun _ => as
def xSeq (s t : AX) : AX := fun R => aSeq (s R) (t R)
def xIf (t : AT) (s u : AX) : AX := fun R => aIfS t (s R) (u R)
/-- an exception is raised -/
def xRaise (C : Addr) : AX := fun R _ _ => R ⟨C, []⟩
/-- what a call that may raise asks -/
def xCall (W : W3) (aa : AN) : (Xd → Prop) → AE := fun R a Q => aa a fun ds => W ds R Q
def xSet (i : Nat) (fe : (Xd → Prop) → AE) : AX := fun R => aSet i (fe R)
def xRet (fe : (Xd → Prop) → AE) : AX := fun R => aRet (fe R)
/-- try: x = f(..) / except C: .. ; sub: which of the classes are of C -/
def xTry (i : Nat) (W : W3) (aa : AN) (sub : Addr → Option Bool) (h : AS) : AX := fun R En a => aa a fun ds => W ds (fun x => ∃ b, sub x.C = some b ∧ (b = true → h En a) ∧ (b = false → R x)) fun y => En.nx (a.set i (.d y))
/-- an expression's value is a datum; or an exception comes out of it -/
def EvX (S : Stt) (c : Nat) (te : WX → TE) (ae : (Xd → Prop) → AE) : Prop := ∀ m Γ a Q W R, Ok S m → Mt S.p a Γ → (∀ σ H cls d x, Env m 0 Γ σ H → XOk m.A H cls d x → R x → W cls d σ H) → ae R a Q → Ev m c (te W) Γ (U Q)
structure PX (X : Cx) (S : Stt) (c : Nat) (e : Expr) (te : WX → TE) (ae : (Xd → Prop) → AE) : Prop where
  pe : ∀ W, Takes X W → PE X e (te W)
  ev : EvX S c te ae
section
variable {X : Cx} {S : Stt} {κ : Bool} {c_t c_u c_te c_tt c_ta : Nat} {t u : WX → TS} {s r : AX} {t0 : TS} {s0 : AS} {st : Stmt} {rest A B : List Stmt} {te : WX → TE} {fe : (Xd → Prop) → AE} {ta : TA} {aa : AN} {W3_ : W3} {n : Option Nat} {tt : TT} {at_ : AT} {e c : Expr} {pos pos' : Pos}
theorem x_of (h : PVst X S κ c_t st t0 s0) : PXst X S κ c_t st (fun _ => t0) (xC s0) := ⟨fun _ _ => h.pe, fun F De En a σ H kr W R c _ rp hh => h.ev F De En a σ H kr c rp hh⟩
theorem x_ofs (h : PVss X S κ c_t rest t0 s0) : PXss X S κ c_t rest (fun _ => t0) (xC s0) := ⟨fun _ _ => h.pe, fun F De En a σ H kr W R c _ rp hh => h.ev F De En a σ H kr c rp hh⟩
theorem x_one (h : PXst X S κ c_t st t s) : PXss X S κ c_t [st] t s := ⟨fun W tk => pss_one (h.pe W tk), h.ev⟩
theorem x_cons (h : PXst X S κ c_t st t s) (k : PXss X S κ c_u rest u r) : PXss X S κ (c_t + c_u) (st :: rest) (fun W => tSeq (t W) (u W)) (xSeq s r) :=
  ⟨fun W tk => pss_cons (h.pe W tk) (k.pe W tk), fun F De En a σ H kr W R c cx rp hh => h.ev F { De with nx := u W De } { En with nx := r R En } a σ H (c_u + kr) W R ⟨fun a σ H rp q => k.ev F De En a σ H kr W R c cx rp q, c.rt, fun a σ H rp q => c.bk a σ H rp.le q, fun a σ H rp q => c.ct a σ H rp.le q⟩ cx rp.le hh⟩
theorem x_if (ht : PVT X S c_tt c tt at_) (h1 : PXss X S κ c_t A t s) (h2 : PXss X S κ c_u B u r) : PXst X S κ (c_tt + c_t + c_u) (.If c A B pos) (fun W => tIfS tt (t W) (u W)) (xIf at_ s r) :=
  ⟨fun W tk => ps_if ht.pe (h1.pe W tk) (h2.pe W tk), fun F De En a σ H kr W R c cx ⟨m, Γ, f, mt, d, E⟩ h =>
    ht.ev m Γ a _ f.ok mt h σ H E.le _ fun b H' st k => by
      cases b with
      | true => exact (if_pos rfl).mpr (h1.ev F De En a σ H' kr W R c cx ⟨m, Γ, f, mt, d, E.step st⟩ (k.1 rfl))
      | false => exact (if_neg Bool.false_ne_true).mpr (h2.ev F De En a σ H' kr W R c cx ⟨m, Γ, f, mt, d, E.step st⟩ (k.2 rfl))⟩
/-- raise C('..') -/
theorem x_raise {C : Addr} (hc : X.calm = true) (he : PMk X e (fun _ H Q => Q (.ref C) none H)) : PXst X S κ 0 (.Raise (some e) none pos) (fun W _ σ H => W (.ref C) none σ H) (xRaise C) :=
  ⟨fun W tk => ps_raise hc tk he, fun F De En a σ H kr W R c cx rp h => cx a σ H _ _ ⟨C, []⟩ rp.le ⟨rfl, .inl ⟨rfl, rfl⟩⟩ h⟩
theorem evx_call (h : EvAs S c_ta n ta aa) : EvX S c_ta (fun W => tCallS (spX S.cs false W3_) (WE W) ta) (xCall W3_ aa) := fun m Γ a Q W R ok mt hx hh σ H E R' q =>
  h m Γ a _ ok mt hh σ H E.le _ fun vs ds H1 _ s o k => ⟨m.A, ds, R, Q, o, (E.step (r := 0) s).trk, fun c hc => (E.step (r := 0) s).ex _ (ok.cs c hc), k, (fun v d H2 kp r p => r.elim (fun r => q v H2 (s.trans (Stp.ext kp)).le ⟨d, r.2, p⟩) fun z => nomatch z.1), fun cls dd x H2 kp xo r => hx σ H2 cls dd x (E.step (r := 0) (s.trans (Stp.ext kp) : Stp m (c_ta + 0) H H2)) xo r⟩
theorem x_set {i : Nat} {x : Str} (hN : X.N.Nodup) (hi : X.N[i]? = some x) (hx : Loc X.env.scope x) (he : PX X S c_te e te fe) (hs : swapsWith e (some (.Name x pos')) pos.line X.env = pure false := by rfl) (hf : X.fn x = true ∨ X.env.scope.names.lookup x = some .local := by first | exact .inl rfl | exact .inr rfl | assumption) :
    PXst X S κ c_te (.Assign [.Name x pos'] e pos) (fun W => tAsg (te W) (gName i)) (xSet i fe) :=
  ⟨fun W tk => ps_set hN hi hx (he.pe W tk) hs hf, fun F De En a σ H kr W R c cx ⟨m, Γ, f, mt, d, E⟩ h =>
    he.ev m Γ a _ W R f.ok mt (fun σ H cls dd x E xo r => cx a σ H cls dd x ⟨m, Γ, f, mt, d, E⟩ (xo.sub f.sub) r) h σ H E.le _ fun v H' s ⟨x, o, k⟩ => c.nx _ _ _ (Rep.at f d Fewer.set (mt.set (.d x)) ((E.step s).set (g := D x) o)) k⟩
theorem x_ret (he : PX X S c_te e te fe) : PXst X S false c_te (.Return (some e) pos) (fun W => tRet (te W)) (xRet fe) :=
  ⟨fun W tk => ps_ret (he.pe W tk), fun F De En a σ H kr W R c cx ⟨m, Γ, f, mt, d, E⟩ h =>
    he.ev m Γ a _ W R f.ok mt (fun σ H cls dd x E xo r => cx a σ H cls dd x ⟨m, Γ, f, mt, d, E⟩ (xo.sub f.sub) r) h σ H E.le _ fun v H' s ⟨x, o, k⟩ => c.rt v H' x ⟨m, Γ, σ, f, E.step s, .inl ⟨rfl, o⟩⟩ k⟩
theorem e_callX {x : Str} {es : List Expr} {p : Pos} {k : Nat} {f : Addr} {fd : FuncData} {ps : List Str} {cs : List (Addr × PyData)} (hS : S.cs = cs) (F : FnOk X.prog X.w X.K X.mg X.base (L2.CX X.prog X.w) k f fd ps (spX cs false W3_)) (hr : Room k X.A) (hg : Gl X x) (hm : X.mg x = some (.ref f)) (hk : PySem.W.keepIn X.K (.ref f) = true) (hb : Binds X.K fd ps [])
    (ha : PVA X S c_ta n (e :: es) ta aa) (hdb : (x == ("__debug__" : Str)) = false := by decide) (he : starEach (e :: es) X.env = (false, eval e X.env) :: starEach es X.env := by rfl) (hpl : (backTo pos (starEach es X.env)).any (·.1) = false := by rfl) :
    PX X S c_ta (.Call (.Name x p) (e :: es) [] pos) (fun W => tCallS (spX cs false W3_) (WE W) ta) (xCall W3_ aa) := by
  subst hS
  exact ⟨fun W tk => pe_callS F hr hg hm hk hb (fun σ => passAt tk σ) ha.pe hdb he hpl, evx_call ha.ev⟩
/-- try: x = f(..) / except C: a suite that raises nothing -/
theorem x_try {x y xe : Str} {es : List Expr} {p np p1 p2 p5 : Pos} {k i : Nat} {f : Addr} {fd : FuncData} {ps : List Str} {cs : List (Addr × PyData)} {cc : Value} {sub : Addr → Option Bool} {b₀ : Stmt} {suite : List Stmt} {th : TS} {sh : AS} (hS : S.cs = cs)
    (F : FnOk X.prog X.w X.K X.mg X.base (L2.CX X.prog X.w) k f fd ps (spX cs false W3_)) (hr : Room k X.A) (hm : X.mg x = some (.ref f)) (hk : PySem.W.keepIn X.K (.ref f) = true) (hb : Binds X.K fd ps [])
    (hs : X.stack = X.env :: X.outer) (hf : X.env.frame = some X.env.locals) (hc : Names X xe cc) (hsub : ∀ C b, sub C = some b → PySem.W.exmOne X.K (.ref C) cc = some b)
    (hN : X.N.Nodup) (hi : X.N[i]? = some y)
    (ha : ∀ (pn : List (Addr × Obj)) (xf : Value → Shared → Prop), PVA (X.tr pn xf) S c_ta n (e :: es) ta aa)
    (hg : ∀ (pn : List (Addr × Obj)) (xf : Value → Shared → Prop), Gl (X.tr pn xf) x) (hy : ∀ (pn : List (Addr × Obj)) (xf : Value → Shared → Prop), Loc (X.tr pn xf).env.scope y)
    (hsw : ∀ (pn : List (Addr × Obj)) (xf : Value → Shared → Prop), swapsWith (.Call (.Name x p) (e :: es) [] pos) (some (.Name y pos')) p1.line (X.tr pn xf).env = pure false)
    (hfn : ∀ (pn : List (Addr × Obj)) (xf : Value → Shared → Prop), (X.tr pn xf).fn y = true ∨ (X.tr pn xf).env.scope.names.lookup y = some .local)
    (hh : ∀ (a : Addr) (oe : Obj) (pn : List (Addr × Obj)), PVss (X.suite a ((a, oe) :: pn)) S κ 0 (b₀ :: suite) th sh)
    (hdb : (x == ("__debug__" : Str)) = false := by decide)
    (he : ∀ (pn : List (Addr × Obj)) (xf : Value → Shared → Prop), starEach (e :: es) (X.tr pn xf).env = (false, eval e (X.tr pn xf).env) :: starEach es (X.tr pn xf).env := by intro _ _; rfl) (hpl : ∀ (pn : List (Addr × Obj)) (xf : Value → Shared → Prop), (backTo pos (starEach es (X.tr pn xf).env)).any (·.1) = false := by intro _ _; rfl) :
    PXst X S κ c_ta (.Try [.Assign [.Name y pos'] (.Call (.Name x p) (e :: es) [] pos) p1] [.ExceptHandler (some (.Name xe np)) none (b₀ :: suite) p2] [] [] p5) (fun W D σ H => tAsg (tCallS (spX cs false W3_) (WE (wOnly X.K cc (fun _ _ _ => th) W D)) ta) (gName i) D σ H) (xTry i W3_ aa sub sh) := by
  subst hS
  refine ⟨fun W tk => ps_try_only (tb := fun W D σ H => tAsg (tCallS (spX S.cs false W3_) (WE W) ta) (gName i) D σ H) hs hf hc tk (fun W2 pn xf tk2 _ => ?_) (fun a oe cls d pn _ _ => (hh a oe pn).pe), fun F De En a σ H kr W R c cx ⟨m, Γ, f, mt, d, E⟩ h => ?_⟩
  · exact pss_one (ps_set hN hi (hy pn xf) (pe_callS (X := X.tr pn xf) F hr (hg pn xf) hm hk hb (fun σ => passAt tk2 σ) (ha pn xf).pe hdb (he pn xf) (hpl pn xf)) (hsw pn xf) (hfn pn xf))
  · refine (ha [] X.xe).ev m Γ a _ f.ok mt h σ H E.le _ fun vs ds H1 _ s o k => ⟨m.A, ds, _, _, o, (E.step (r := 0) s).trk, fun c hc => (E.step (r := 0) s).ex _ (f.ok.cs c hc), k, (fun v y H2 kp r p => ?_), fun cls dd x H2 kp xo r => ?_⟩
    · rcases r with ⟨_, r⟩ | ⟨z, _⟩
      · exact c.nx _ _ _ (Rep.at f d Fewer.set (mt.set (.d y)) ((E.step (r := kr) (s.trans (Stp.ext kp) : Stp m (c_ta + 0) H H2)).set (g := D y) r)) p
      · cases z
    · obtain ⟨b, e1, e2, e3⟩ := r
      have E2 : Env m kr Γ σ H2 := E.step (s.trans (Stp.ext kp) : Stp m (c_ta + 0) H H2)
      refine ⟨b, by rw [xo.1]; exact hsub _ _ e1, fun hb' a0 _ => ?_, fun hb' => ?_⟩
      · exact (hh a0 default []).ev F De En a σ H2 kr c ⟨m, Γ, f, mt, d, E2.le⟩ (e2 hb')
      · exact cx a σ H2 cls dd x ⟨m, Γ, f, mt, d, E2.le⟩ (xo.sub f.sub) (e3 hb')
end
section
variable {X : Cx} {S : Stt} {κ : Bool} {c_t : Nat} {t : WX → TS} {s : AX} {st : Stmt} {pos : Pos}
theorem x_nil : PXss X S κ 0 [] (fun _ => tNext) (xC aNext) := x_ofs q_nil
/-- where nothing may come out -/
theorem s_of_x (h : PXst X S κ c_t st t s) : PVst X S κ c_t st (t fun _ _ _ _ => False) (s fun _ => False) :=
  ⟨h.pe _ takes0, fun F De En a σ H kr c rp hh => h.ev F De En a σ H kr _ _ c (fun _ _ _ _ _ _ _ _ z => z) rp hh⟩
/-- what an own class over ValueError without __init__ must have to be raised -/
structure ExcK (K : Frag) (mg : Str → Option Value) (x : Str) (C : Addr) : Prop where
  g : mg x = some (.ref C)
  q : PySem.W.excIn K C [.type "ValueError", .type "Exception", .type "BaseException", .type "object"] "ValueError.__new__" = true
  k : PySem.W.keepIn K (.ref C) = true
  b : PySem.W.subIn K (.ref C) (.type "BaseException") = some true
  t : PySem.W.typeIn K (.ref C) = some (.type "type")
theorem x_raiseK {x m : Str} {j : Nat} {p p2 p3 : Pos} {C : Addr} (E : ExcK X.K X.mg x C) (hc : X.calm = true) (hg : Gl X x) (hdb : (x == ("__debug__" : Str)) = false := by decide) :
    PXst X S κ 0 (.Raise (some (.Call (.Name x p) [.Constant (.str m) j p2] [] p3)) none pos) (fun W _ σ H => W (.ref C) none σ H) (xRaise C) :=
  x_raise hc (pmk_own PySem.F.excBase_ValueError E.q E.g E.k (raises_own E.b E.t) hg hdb)
/-- which of the classes are of the class that a clause names -/
def subL (l : List (Addr × Bool)) : Addr → Option Bool := fun C => l.lookup C
theorem mem_lookup {C : Addr} {b : Bool} : ∀ {l : List (Addr × Bool)}, l.lookup C = some b → (C, b) ∈ l
  | [], e => nomatch e
  | (a, v) :: l, e => by
    rw [List.lookup_cons] at e
    cases h : C == a with
    | true =>
      rw [h] at e
      have e1 : v = b := Option.some.inj e
      rw [e1, eq_of_beq h]
      exact List.mem_cons_self
    | false =>
      rw [h] at e
      exact List.mem_cons_of_mem _ (mem_lookup e)
theorem sub_l {K : Frag} {cc : Value} {l : List (Addr × Bool)} (h : ∀ p ∈ l, PySem.W.exmOne K (.ref p.1) cc = some p.2) : ∀ C b, subL l C = some b → PySem.W.exmOne K (.ref C) cc = some b := fun C b e => h (C, b) (mem_lookup e)
abbrev calm (W : W3) : List PyData → (PyData → Prop) → Prop := fun ds Q => W ds (fun _ => False) Q
end
section
variable {X : Cx} {S : Stt} {κ : Bool} {c_t c_u c_te c_tt c_ta : Nat} {ta : TA} {aa : AN} {W3_ : W3} {n : Option Nat} {e c : Expr} {pos pos' : Pos}
/-- .. where nothing may come out -/
theorem s_try (K : Frag) {st : Stmt} {x y xe : Str} {es : List Expr} {p np p1 p2 p5 : Pos} {k i : Nat} {f : Addr} {fd : FuncData} {ps : List Str} {cs : List (Addr × PyData)} {cc : Value} {sub : Addr → Option Bool} {b₀ : Stmt} {suite : List Stmt} {th : TS} {sh : AS} (hst : st = (.Try [.Assign [.Name y pos'] (.Call (.Name x p) (e :: es) [] pos) p1] [.ExceptHandler (some (.Name xe np)) none (b₀ :: suite) p2] [] [] p5 : Stmt)) (hS : S.cs = cs)
    (F : FnOk X.prog X.w X.K X.mg X.base (L2.CX X.prog X.w) k f fd ps (spX cs false W3_)) (hr : Room k X.A) (hm : X.mg x = some (.ref f)) (hk : PySem.W.keepIn X.K (.ref f) = true) (hb : Binds X.K fd ps [])
    (hs : X.stack = X.env :: X.outer) (hf : X.env.frame = some X.env.locals) (hc : Names X xe cc) (hsub : ∀ C b, sub C = some b → PySem.W.exmOne K (.ref C) cc = some b)
    (hN : X.N.Nodup) (hi : X.N[i]? = some y)
    (ha : ∀ (pn : List (Addr × Obj)) (xf : Value → Shared → Prop), PVA (X.tr pn xf) S c_ta n (e :: es) ta aa)
    (hg : ∀ (pn : List (Addr × Obj)) (xf : Value → Shared → Prop), Gl (X.tr pn xf) x) (hy : ∀ (pn : List (Addr × Obj)) (xf : Value → Shared → Prop), Loc (X.tr pn xf).env.scope y)
    (hsw : ∀ (pn : List (Addr × Obj)) (xf : Value → Shared → Prop), swapsWith (.Call (.Name x p) (e :: es) [] pos) (some (.Name y pos')) p1.line (X.tr pn xf).env = pure false)
    (hfn : ∀ (pn : List (Addr × Obj)) (xf : Value → Shared → Prop), (X.tr pn xf).fn y = true ∨ (X.tr pn xf).env.scope.names.lookup y = some .local)
    (hh : ∀ (a : Addr) (oe : Obj) (pn : List (Addr × Obj)), PVss (X.suite a ((a, oe) :: pn)) S κ 0 (b₀ :: suite) th sh)
    (hK : X.K = K := by rfl) (hdb : (x == ("__debug__" : Str)) = false := by decide)
    (he : ∀ (pn : List (Addr × Obj)) (xf : Value → Shared → Prop), starEach (e :: es) (X.tr pn xf).env = (false, eval e (X.tr pn xf).env) :: starEach es (X.tr pn xf).env := by intro _ _; rfl) (hpl : ∀ (pn : List (Addr × Obj)) (xf : Value → Shared → Prop), (backTo pos (starEach es (X.tr pn xf).env)).any (·.1) = false := by intro _ _; rfl) :
    PVst X S κ c_ta st (fun D σ H => tAsg (tCallS (spX cs false W3_) (WE (wOnly K cc (fun _ _ _ => th) (fun _ _ _ _ => False) D)) ta) (gName i) D σ H) (xTry i W3_ aa sub sh fun _ => False) :=
  by
  subst hK
  exact hst ▸ s_of_x (x_try hS F hr hm hk hb hs hf hc hsub hN hi ha hg hy hsw hfn hh hdb he hpl)
end
/-! ### defs -/
def fnX (κ : Bool) (n N : Nat) (s : AX) : W3 := fun ds R Q => ds.length = n ∧ s R { nx := fun _ => κ = false ∧ Q .none, rt := Q } (ds.map .d ++ List.replicate (N - n) .no)
section
variable {P : Program} {w : World} {K : Frag} {mg : Str → Option Value} {base : Heap}
theorem fn_okX {x qual : Str} {st : Stmt} {f : Addr} {fd : FuncData} {N ps : List Str} {k : Nat} {κ : Bool} {s : AX} {cs : List (Addr × PyData)} (F : Fun K x qual st f fd) (Sc : FnScope N ps (defScope st))
    (hb : ∀ (cdv : Value) (A : Around) (outer : List Env) (s0 : Shared) (H : Hp) (E : XK), Room k (A.deeper (envOfC qual (defScope st) s0.heap.objs.size f cdv)) →
      ∃ ts : WX → TS, PXss (cxOf (L2.CX P w) P w K mg base N qual (defScope st) f cdv A outer s0 H E) (Stt.nul cs) κ 0 (defBody st) ts s) :
    FnOk P w K mg base (L2.CX P w) (k + 1) f fd ps (spX cs κ (fnX κ ps.length N.length s)) := by
  refine F.okX Sc (fun vs H Q E h => ?_) (fun cdv A outer s0 H vs Q E hr h => ?_)
  · obtain ⟨A, ds, R, P, hd, _, _, ⟨hl, _⟩, _⟩ := h
    rw [hd.length, hl]
  · obtain ⟨A', ds, R, P, hd, ht, hcs, ⟨hl, hw⟩, q, qx⟩ := h
    obtain ⟨ts, B⟩ := hb cdv A outer s0 H E hr
    refine ⟨ts _, B.pe _ (takes_of (E := E) rfl rfl rfl rfl), ?_⟩
    rw [← hl] at hw
    have E0 := env_nul (N := N) hd ht hcs
    have R0 : Rep (Stt.nul cs) ⟨H, A', [], 0, ht⟩ (0 + 0) (ds.map .d ++ List.replicate (N.length - ds.length) .no) (L2.start N vs) H := ⟨mNul cs A' H, _, ⟨rfl, ok_nul, rfl, fun _ h => h, fun x h => absurd h (by simp)⟩, mt_start, dis_start, E0⟩
    have rt : ∀ v H' d, RetV (Stt.nul cs) ⟨H, A', [], 0, ht⟩ κ v H' d → P d → Q v H' := fun v H' d ⟨m, Γ, σ, f, E', k⟩ hP => by
      refine q v d H' (fun a o h => ?_) ?_ hP
      · have hm : ¬ m.M a := by rw [f.ok.hM]; exact fun z => z
        exact E'.fr a o (by rw [f.hH]; exact h) hm
      · rcases k with ⟨rfl, o⟩ | ⟨rfl, p, xs, es, rfl, rfl, h0, hM, hp, o⟩
        · exact .inl ⟨rfl, o.to fun a o h n => ⟨h, fun z => n (f.sub a z)⟩⟩
        · refine .inr ⟨rfl, p, xs, es, rfl, rfl, ?_, hp, o⟩
          rw [f.hH] at h0
          exact h0
    refine B.ev ⟨H, A', [], 0, ht⟩ _ { nx := fun _ => κ = false ∧ P .none, rt := P } _ _ H 0 _ R ⟨fun a σ H' ⟨m, Γ, f, mt, d, E'⟩ k => rt .non H' .none ⟨m, Γ, σ, f, E', .inl ⟨k.1, .non⟩⟩ k.2, rt, fun a σ H' _ k => k.elim, fun a σ H' _ k => k.elim⟩ (fun a σ H' cls d x ⟨m, Γ, f, mt, dd, E'⟩ xo hx => qx cls d x H' (fun a o h => ?_) xo hx) R0 hw
    have hm : ¬ m.M a := by rw [f.ok.hM]; exact fun z => z
    exact E'.fr a o (by rw [f.hH]; exact h) hm
end
end Vc

set_option Elab.async false
set_option linter.all false
set_option maxRecDepth 100000
set_option maxHeartbeats 2000000
/-! x = {k: v for ..}; del x[k]. -/
namespace Vc
open PySem PySem.Spec PyProof.Rows L2 PySem.W Lh
def dcW (ag : AG) (at_ : AT) (ak av : AE) (a : Sg) : List PyData → List (L2.Key × PyData) → (List (L2.Key × PyData) → Prop) → Prop
  | [], acc, Q => Q acc
  | x :: xs, acc, Q => ag x a fun a' => at_ a' fun b => (b = true → ak a' fun y => av a' fun z => gKey y fun k => dcW ag at_ ak av a xs (dPut acc k z) Q) ∧ (b = false → dcW ag at_ ak av a xs acc Q)
def aSetDc (i : Nat) (ai : AN) (ag : AG) (at_ : AT) (ak av : AE) (vs : List Nat) : AS := fun En a => ai a fun ds => ds.length < sizeLine ∧ dcW ag at_ ak av (wipeA a vs) ds [] fun kvs => En.nx (a.set i (.m kvs))
/-- a new dict comes of it -/
def EvD (S : Stt) (c : Nat) (te : TE) (ap : Sg → (List (L2.Key × PyData) → Prop) → Prop) : Prop := ∀ m Γ a Q, Ok S m → Mt S.p a Γ → ap a Q → ∀ σ H, Env m c Γ σ H → ∀ R : VK,
  (∀ q kw kvs H', Stp m c H H' → H q = none → H' q = some (.dK kw) → kw.map Prod.fst = kvs.map Prod.fst → DqA (fun b => m.A b ∨ b = q) H' (kw.map Prod.snd) (kvs.map Prod.snd) → Q kvs → R (.ref q) H') → te σ H R
theorem dput_len {kvs : List (L2.Key × PyData)} {k : L2.Key} {x : PyData} : (dPut kvs k x).length ≤ kvs.length + 1 := by
  unfold dPut
  split
  · rw [List.length_map]; omega
  · rw [List.length_append]; exact Nat.le_refl _
section
variable {S : Stt} {κ : Bool} {c_wi c_tt c_tk c_tv : Nat} {wi : TI} {ai : AN} {tg : TG} {ag : AG} {tt : TT} {at_ : AT} {tk tv : TE} {ak av : AE} {vs us : List Nat}
theorem evd_dc (hi : EvI' S c_wi wi ai) (hg : TgW S us tg ag) (hu : ∀ i ∈ us, i ∈ vs) (ht : EvB S c_tt tt at_) (hk : EvW S c_tk tk ak) (hv : EvW S c_tv tv av) :
    EvD S (c_wi + lineN * (c_tt + c_tk + c_tv)) (tDc wi tg tt tk tv vs) (fun a Q => ai a fun ds => ds.length < sizeLine ∧ dcW ag at_ ak av (wipeA a vs) ds [] Q) := fun m Γ a Q ok mt hh σ H E R q =>
  hi m Γ a _ ok mt hh σ H E.le _ fun J ds H1 s1 wk ⟨hz, hw⟩ Dp hD => by
    obtain ⟨k, hkk⟩ : ∃ k, c_tt + c_tk + c_tv = k := ⟨_, rfl⟩
    rw [hkk] at q
    have hz' : ds.length * k ≤ lineN * k := Nat.mul_le_mul_right k (by rw [sizeLine_eq] at hz; exact Nat.le_of_lt hz)
    rw [hkk] at E
    have E1 : Env m (ds.length * k) Γ σ H1 := E.step s1
    have nM : ¬ m.M Dp := E1.freeM hD
    have nA : ¬ m.A Dp := E1.free hD
    have hDH : H Dp = none := Vc.Env.back E.le s1 hD
    have nb : NoBox Dp (wipeG Γ vs) := (E1.wipe vs).noBox hD
    refine ⟨fun i n H2 => n + i = ds.length ∧ Stp m (i * k) H1 H2 ∧ Env (m.add Dp) ((ds.length - i) * k) (wipeG Γ vs) (wipe σ vs) H2 ∧ ∃ kw kvs, H2 Dp = some (.dK kw) ∧ kw.map Prod.fst = kvs.map Prod.fst ∧ DqA (m.add Dp).A H2 (kw.map Prod.snd) (kvs.map Prod.snd) ∧ kvs.length ≤ i ∧ dcW ag at_ ak av (wipeA a vs) (ds.drop i) kvs Q,
      ⟨ds.length, rfl, (Stp.new hD).le, (E1.wipe vs).made hD, [], [], upd_same, rfl, .nil, Nat.le_refl _, hw⟩, fun i n H2 ⟨en, s2, E2, kw, kvs, eD, e1, ha, hl, hq⟩ => ?_⟩
    have k2 : To m.A H1 (m.add Dp).A H2 := fun b o h n => ⟨s2.kp b o h fun z => n (E1.sub b z), fun z => z.elim n (ne_of_none h hD)⟩
    obtain ⟨w1, w2⟩ := wk (m.add Dp).A H2 k2 E2.trk
    rw [List.length_map] at w2
    have hkl : kw.length = kvs.length := by
      have := congrArg List.length e1
      simpa using this
    by_cases hi : i < ds.length
    · have ed : ds.drop i = ds[i] :: ds.drop (i + 1) := List.drop_eq_getElem_cons hi
      have eu := mul_sub (k := k) hi
      have ev : (i + 1) * k = i * k + k := Nat.succ_mul ..
      rw [ed] at hq
      obtain ⟨go, turn⟩ := w1 i (isD ds[i]) (by rw [List.getElem?_map, List.getElem?_eq_getElem hi]; rfl)
      refine .inr ⟨go, fun H3 => Stp m ((i + 1) * k) H1 H3 ∧ Env (m.add Dp) ((ds.length - (i + 1)) * k) (wipeG Γ vs) (wipe σ vs) H3 ∧ ∃ kw kvs, H3 Dp = some (.dK kw) ∧ kw.map Prod.fst = kvs.map Prod.fst ∧ DqA (m.add Dp).A H3 (kw.map Prod.snd) (kvs.map Prod.snd) ∧ kvs.length ≤ i + 1 ∧ dcW ag at_ ak av (wipeA a vs) (ds.drop (i + 1)) kvs Q,
        fun H3 ⟨b, c, d⟩ => ⟨n - 1, by omega, by omega, b, c, d⟩, fun x H3 hy => ?_⟩
      obtain ⟨k3, gx⟩ := turn x H3 hy
      have s3 : Stp (m.add Dp) 0 H2 H3 := Stp.ext k3
      have E3 : Env (m.add Dp) ((ds.length - i) * k) (wipeG Γ vs) (wipe σ vs) H3 := E2.step s3
      obtain ⟨Γ', a', t1, mt1, f1, h1⟩ := hg (m.add Dp) _ _ _ _ ok.add (mt.wipe vs) hq
      refine t1 _ _ H3 x E3 gx _ fun σ' E4 hwp => ⟨by rw [hwp vs hu, wipe_wipe], ?_⟩
      refine ht (m.add Dp) Γ' a' _ ok.add mt1 h1 σ' H3 E4.le _ fun b H4 s4 h2 => ?_
      cases b with
      | true =>
        refine (if_pos rfl).mpr ?_
        have E4b : Env (m.add Dp) ((ds.length - (i + 1)) * k + (c_tk + c_tv)) Γ' σ' H4 := E4.step s4
        refine hk (m.add Dp) Γ' a' _ ok.add mt1 (h2.1 rfl) σ' H4 E4b.le _ fun y H5 s5 ⟨dy, oy, h3⟩ => ?_
        have E5b : Env (m.add Dp) ((ds.length - (i + 1)) * k + c_tv) Γ' σ' H5 := E4b.step s5
        refine hv (m.add Dp) Γ' a' _ ok.add mt1 h3 σ' H5 E5b.le _ fun z H6 s6 ⟨dz, oz, h4⟩ => ?_
        have oy6 := oy.to (s6.to E2.sub)
        obtain ⟨j, rfl, rfl, h5⟩ := gKey.get oy6 h4
        have s25 : Stp (m.add Dp) k H2 H6 := (((s3.trans s4).trans s5).trans s6).le
        have E5 : Env (m.add Dp) ((ds.length - (i + 1)) * k) (wipeG Γ vs) (wipe σ vs) H6 := E2.step s25
        have ha5 := ha.to (s25.to E2.sub)
        obtain ⟨p1, p2⟩ := put_ok (k := j) oz e1 ha5
        refine ⟨kw, j, rfl, s25.kp _ _ eD nM, by rw [hkl]; omega, ?_, E5.put (.inr rfl) nM (E1.free0 hD) nb, putK kw j z, dPut kvs j dz, upd_same, p1, ?_, Nat.le_trans dput_len (by omega), h5⟩
        · refine ⟨fun b o h n => ?_, fun n ho hn => ?_⟩
          · rw [upd_ne (ne_of_none h hD)]
            exact s25.kp b o (s2.kp b o h n) n
          · rw [ev, ← Nat.add_assoc] at ho ⊢
            have h7 := s25.inv _ ho (s2.inv n (m.okd ho (Nat.le_add_right _ _)) hn)
            exact m.imono h7 fun b o h hm => by
              rw [upd_ne (fun z : b = Dp => nM (z ▸ hm))]
              exact h
        · have t : To (m.add Dp).A H6 (m.add Dp).A (upd H6 Dp (.dK (putK kw j z))) := fun b o h n => ⟨by rw [upd_ne (fun z => n (.inr z))]; exact h, n⟩
          exact p2.to t
      | false =>
        refine (if_neg Bool.false_ne_true).mpr ?_
        have s24 : Stp (m.add Dp) k H2 H4 := (s3.trans s4).le
        exact ⟨⟨fun b o h n => s24.kp b o (s2.kp b o h n) n, fun n ho hn => by
          rw [ev, ← Nat.add_assoc] at ho ⊢
          exact s24.inv _ ho (s2.inv n (m.okd ho (Nat.le_add_right _ _)) hn)⟩, E2.step s24, kw, kvs, s24.kp _ _ eD nM, e1, ha.to (s24.to E2.sub), by omega, h2.2 rfl⟩
    · have hi' : i = ds.length := by omega
      subst hi'
      rw [List.drop_length] at hq
      exact .inl ⟨w2, q Dp kw kvs H2 (s1.trans s2).le hDH eD e1 ha hq⟩
theorem Env.newD {c k : Nat} {m : Md} {Γ : Gam} {σ : L2.St} {H H' : Hp} {i : Nat} {q : Addr} {kw : List (L2.Key × V)} {kvs : List (L2.Key × PyData)} (E : Env m (c + k) Γ σ H) (s : Stp m c H H') (hq : H q = none) (hp : H' q = some (.dK kw)) (e : kw.map Prod.fst = kvs.map Prod.fst) (o : DqA (fun b => m.A b ∨ b = q) H' (kw.map Prod.snd) (kvs.map Prod.snd)) :
    Env (m.add q) k (Γ.set i (some (.box q (bM kvs)))) (σ.set i (some (.ref q))) H' := by
  have E1 := E.step (r := k) s
  have tt : To m.A H (m.add q).A H' := fun a o e n => ⟨s.kp a o e fun z => n (E.sub a z), fun z => z.elim n (ne_of_none e hq)⟩
  have E3 : Env (m.add q) k Γ σ H' := by
    refine ⟨E1.inv, E1.fr, fun a ha => .inl (E.sub a ha), fun a ha => ?_, fun x hx => x.2.mono tt (E.ex x hx), E.len, fun i g e => ?_⟩
    · rcases ha with ha | rfl
      · exact E1.trk a ha
      · rw [hp]; exact Tk.dK
    · obtain ⟨v, h1, h2⟩ := E.sl i g e
      refine ⟨v, h1, ?_⟩
      cases g with
      | im f => exact f.mono tt h2
      | box p b =>
        obtain ⟨e1, h3, h4, h5, u, h6, h7⟩ := h2
        exact ⟨e1, .inl h3, h4, h5, u, s.kp p u h6 h4, b.mono tt h7⟩
  exact E3.set ⟨rfl, .inr rfl, E.freeM hq, E.free0 hq, _, hp, kw, rfl, e, o⟩
theorem stw_setDc {i c : Nat} {te : TE} {ap : Sg → (List (L2.Key × PyData) → Prop) → Prop} (he : EvD S c te ap) : StW S κ c (tAsg te (gName i)) (fun En a => ap a fun kvs => En.nx (a.set i (.m kvs))) := fun F De En a σ H kr c ⟨m, Γ, f, mt, d, E⟩ h =>
  he m Γ a _ f.ok mt h σ H E.le _ fun q kw kvs H' s hq hp e o k => c.nx _ _ _ ⟨m.add q, _, f.add, mt.set (.m kvs q), d.setB (NoBox.wk (E.noBox hq)), Env.newD E s hq hp e o⟩ k
end
section
variable {X : Cx} {S : Stt} {κ : Bool} {c_wi c_tt c_tk c_tv : Nat} {tg iter ek ev : Expr} {ifs : List Expr} {wi : TI} {ai : AN} {g : TG} {ag : AG} {tt : TT} {at_ : AT} {tk tv : TE} {ak av : AE} {us : List Nat} {pos px p2 : Pos}
theorem sw_trueD {kx vx : Expr} {gs : List Comprehension} {scope : Scope} {pos py : Pos} {y : Str} {l : Nat} {env : PySem.Env} (hk : env.scope.kind = .function) (hy : env.scope.names.lookup y = some .local) (hl : (py.line == pos.line) = true)
    (ha : (scope.names.any fun (n, k) => n == y && (k == .local || k == .cell)) = false) : swapsWith (.DictComp kx vx gs scope pos) (some (.Name y py)) l env = pure true := by
  have ky : env.kindOf y = some .local := hy
  have hb : env.blockKind = .function := by unfold PySem.Env.blockKind; rw [hk]; rfl
  unfold swapsWith
  simp only [hb, ky, ha, Expr.pos, hl]
  rfl
theorem ps_setDc {i : Nat} {y : Str} {py : Pos} {kx vx tg iter : Expr} {ifs : List Expr} {scope : Scope} {own : List (Str × Nat)} {pos spos : Pos} {wi : TI} {g : TG} {tt : TT} {tk tv : TE} (hc : X.calm = true) (hN : X.N.Nodup) (hy : X.N[i]? = some y) (hyl : X.env.scope.names.lookup y = some .local)
    (hsw : swapsWith (.DictComp kx vx [⟨tg, iter, ifs, 0⟩] scope pos) (some (.Name y py)) spos.line X.env = pure true) (hi : PI X tg iter wi) (ok : BlkOk X.N X.env.scope scope own)
    (hg : ∀ (s : Shared) (H : Hp) (C : Addr) (cl : List (Str × Addr)) (fp : List Addr), PG (X.blk s H scope (compEnvC scope cl C X.env) fp) tg g) (ht : ∀ (s : Shared) (H : Hp) (C : Addr) (cl : List (Str × Addr)) (fp : List Addr), PTs (X.blk s H scope (compEnvC scope cl C X.env) fp) ifs tt)
    (hk : ∀ (s : Shared) (H : Hp) (C : Addr) (cl : List (Str × Addr)) (fp : List Addr), PE (X.blk s H scope (compEnvC scope cl C X.env) fp) kx tk)
    (he : ∀ (s : Shared) (H : Hp) (C : Addr) (cl : List (Str × Addr)) (fp : List Addr), PE (X.blk s H scope (compEnvC scope cl C X.env) fp) vx tv) (hs : ∀ x, foldedSetIterable iter X.env x = pure x := by intro _; rfl) :
    PS X (.Assign [.Name y py] (.DictComp kx vx [⟨tg, iter, ifs, 0⟩] scope pos) spos) (tAsg (tDc wi g tt tk tv (own.map (·.2))) (gName i)) := by
  refine ⟨fun pins s σ H D I h => ?_⟩
  rw [exec_Assign_Name_used _ _ _ _ hsw]
  refine wpAny_bind (wpAny_standAt (wpAny_bind ?_))
  show wpAny _ X.A (do let _ ← comprehension (.DictComp kx vx [⟨tg, iter, ifs, 0⟩] scope pos) scope X.env (firstIterPos [⟨tg, iter, ifs, 0⟩] pos) newDict false (eval iter X.env) (some (assign (.Name y py) X.env))) _ _ s
  have h : tDc wi g tt tk tv (own.map (·.2)) σ H (fun x H1 => gName i x σ H1 D.nx) := h
  refine wpAny_bind (thn (dc_core (Qf := fun _ s' => SP X pins D .next s') hc hN I hi ok hg ht hk he hs h fun L C s' m H' I' q hn f => ?_) fun _ s' hq => wpAny_pure (wpAny_pure hq))
  show wpAny _ _ (assign (.Name y py) X.env (.ref L)) _ _ _
  refine wpAny_assign_Name (store_ok2 (v := V.ref L) I' hN hy (.inl hyl) rfl (fun s2 I2 ⟨a, sb, ha⟩ => ?_) (.inr hyl))
  obtain ⟨f0, f1, f2, f3, f4, f5⟩ := f
  have haC : C ≠ a := by
    rcases ha with z | z
    · rw [z]; exact f1
    · exact fun e => f4 y a z e.symm
  refine ⟨m, hn.sameBut sb haC, fun h3 sb3 => ?_⟩
  exact ⟨_, H', I2.turned (t' := s2.toks) (fun b o hb e => (sb3.2 b hb).trans e) f0 f1 f3 f4 f5, q⟩
theorem s_setDc {i : Nat} {x : Str} {scope : Scope} {own : List (Str × Nat)} (hN : X.N.Nodup) (hix : X.N[i]? = some x) (hx : X.env.scope.names.lookup x = some .local) (hc : X.calm = true) (hs : swapsWith (.DictComp ek ev [⟨tg, iter, ifs, 0⟩] scope p2) (some (.Name x px)) pos.line X.env = pure true) (hi : PVI X S c_wi tg iter wi ai) (ok : BlkOk X.N X.env.scope scope own)
    (hg : ∀ (s : Shared) (H : Hp) (C : Addr) (cl : List (Str × Addr)) (fp : List Addr), PVG (X.blk s H scope (compEnvC scope cl C X.env) fp) S us tg g ag) (ht : ∀ (s : Shared) (H : Hp) (C : Addr) (cl : List (Str × Addr)) (fp : List Addr), PVTs (X.blk s H scope (compEnvC scope cl C X.env) fp) S c_tt ifs tt at_)
    (hk : ∀ (s : Shared) (H : Hp) (C : Addr) (cl : List (Str × Addr)) (fp : List Addr), PV (X.blk s H scope (compEnvC scope cl C X.env) fp) S c_tk ek tk ak) (hv : ∀ (s : Shared) (H : Hp) (C : Addr) (cl : List (Str × Addr)) (fp : List Addr), PV (X.blk s H scope (compEnvC scope cl C X.env) fp) S c_tv ev tv av)
    (hu : ∀ i ∈ us, i ∈ own.map (·.2) := by decide) (hfs : ∀ x, foldedSetIterable iter X.env x = pure x := by intro _; rfl) :
    PVst X S κ (c_wi + lineN * (c_tt + c_tk + c_tv)) (.Assign [.Name x px] (.DictComp ek ev [⟨tg, iter, ifs, 0⟩] scope p2) pos) (tAsg (tDc wi g tt tk tv (own.map (·.2))) (gName i)) (aSetDc i ai ag at_ ak av (own.map (·.2))) :=
  ⟨ps_setDc hc hN hix hx hs hi.pe ok (fun s H C cl fp => (hg s H C cl fp).pe) (fun s H C cl fp => (ht s H C cl fp).pe) (fun s H C cl fp => (hk s H C cl fp).pe) (fun s H C cl fp => (hv s H C cl fp).pe) hfs,
   stw_setDc (evd_dc hi.ev (hg X.s_0 (fun _ => none) 0 [] []).ev hu (ht X.s_0 (fun _ => none) 0 [] []).ev (hk X.s_0 (fun _ => none) 0 [] []).ev (hv X.s_0 (fun _ => none) 0 [] []).ev)⟩
/-- del x[k] -/
def dDrop (kvs : List (L2.Key × PyData)) (k : L2.Key) : List (L2.Key × PyData) := kvs.filter fun kv => decide (¬ kv.1 = k)
def aDelM (i : Nat) (fk : AE) : AS := fun En a => match a[i]? with
  | some (.m kvs) => fk a fun y => gKey y fun k => (dVal kvs k).isSome = true ∧ En.nx (a.set i (.m (dDrop kvs k)))
  | _ => False
theorem drop_ok {A : Addr → Prop} {H : Hp} {k : L2.Key} : ∀ {kw : List (L2.Key × V)} {kvs : List (L2.Key × PyData)}, kw.map Prod.fst = kvs.map Prod.fst → DqA A H (kw.map Prod.snd) (kvs.map Prod.snd) → (dropK kw k).map Prod.fst = (dDrop kvs k).map Prod.fst ∧ DqA A H ((dropK kw k).map Prod.snd) ((dDrop kvs k).map Prod.snd)
  | [], [], _, _ => ⟨rfl, .nil⟩
  | p :: kw, z :: kvs, e, .cons h t => by
    rw [List.map_cons, List.map_cons] at e
    injection e with e1 e2
    obtain ⟨r1, r2⟩ := drop_ok (k := k) e2 t
    by_cases q : z.1 = k
    · have q' : p.1 = k := e1.trans q
      have z1 : dropK (p :: kw) k = dropK kw k := List.filter_cons_of_neg (by simp [q'])
      have z2 : dDrop (z :: kvs) k = dDrop kvs k := List.filter_cons_of_neg (by simp [q])
      rw [z1, z2]
      exact ⟨r1, r2⟩
    · have q' : ¬ p.1 = k := fun y => q (e1.symm.trans y)
      have z1 : dropK (p :: kw) k = p :: dropK kw k := List.filter_cons_of_pos (by simp [q'])
      have z2 : dDrop (z :: kvs) k = z :: dDrop kvs k := List.filter_cons_of_pos (by simp [q])
      rw [z1, z2]
      exact ⟨by rw [List.map_cons, List.map_cons, e1, r1], .cons h r2⟩
theorem stw_delM {i : Nat} (hk : EvW S c_tk tk ak) : StW S κ c_tk (sDDel (tVar i) tk) (aDelM i ak) := fun F De En a σ H kr c ⟨m, Γ, f, mt, d, E⟩ h => by
  unfold aDelM at h
  split at h
  · rename_i kvs e
    obtain ⟨q, e⟩ := mt.m e
    obtain ⟨v', h1', rfl, _⟩ := E.sl i _ e
    refine ⟨_, h1', hk m Γ a _ f.ok mt h σ H E.le _ fun w H2 s2 ⟨dw, ow, k6⟩ => ?_⟩
    have E2 : Env m kr Γ σ H2 := E.step s2
    obtain ⟨w', h2, rfl, k1, k2, k3, o, k4, kw, rfl, e1, k5⟩ := E2.sl i _ e
    obtain ⟨j, rfl, rfl, hz, k7⟩ := gKey.get ow k6
    obtain ⟨p1, p2⟩ := drop_ok (k := j) e1 k5
    refine ⟨q, kw, j, rfl, k4, rfl, ?_, c.nx _ _ _ (Rep.boxM f d mt E2 e p1 p2) k7⟩
    obtain ⟨r1, r2⟩ := dval_val j e1 k5
    obtain ⟨dd, hd⟩ := Option.isSome_iff_exists.mp hz
    obtain ⟨v, hv, _⟩ := r2 dd hd
    rw [hv]
    rfl
  · exact h.elim
theorem s_delM (i : Nat) {x : Str} {np tp : Pos} (hk : PV X S c_tk ek tk ak) (hN : X.N[i]? = some x := by rfl) (hvx : Vis X.env.scope x := by first | exact Or.inl rfl | exact Or.inr (Or.inl rfl) | exact Or.inr (Or.inr rfl)) (hd : (x == ("__debug__" : Str)) = false := by decide) (hcd : (x == ("__classdict__" : Str)) = false := by decide) :
    PVst X S κ c_tk (.Delete [.Subscript (.Name x np) ek tp] pos) (sDDel (tVar i) tk) (aDelM i ak) := ⟨ps_ddel (pe_var hN hvx hd hcd) hk.pe, stw_delM hk.ev⟩
/-- len of a dict under change -/
def aLenM (i : Nat) : AE := fun a Q => match a[i]? with
  | some (.m kvs) => Q (.int kvs.length)
  | _ => False
abbrev rLenM : List V → Hp → VK → Prop := fun xs H Q => ∃ a kvs, xs = [V.ref a] ∧ H a = some (.dK kvs) ∧ Q (.int kvs.length) H
theorem evw_lenM {i : Nat} : EvW S 0 (tCB rLenM (tCons (tVar i) tNil)) (aLenM i) := fun m Γ a Q ok mt hh σ H E R q => by
  unfold aLenM at hh
  split at hh
  · rename_i kvs e
    obtain ⟨p, e⟩ := mt.m e
    obtain ⟨v, h1, rfl, k1, k2, k3, o, k4, kw, rfl, e1, k5⟩ := E.sl i _ e
    have hl : kw.length = kvs.length := by
      have := congrArg List.length e1
      simpa using this
    refine ⟨_, h1, p, kw, rfl, k4, ?_⟩
    rw [hl]
    exact q _ H Stp.refl ⟨_, .int _, hh⟩
  · exact hh.elim
theorem e_lenM (i : Nat) {x : Str} {p np q : Pos} (hm : X.mg "len" = none) (hg : Gl X "len" := by rfl) (hN : X.N[i]? = some x := by rfl) (hvx : Vis X.env.scope x := by first | exact Or.inl rfl | exact Or.inr (Or.inl rfl) | exact Or.inr (Or.inr rfl)) (hd : (x == ("__debug__" : Str)) = false := by decide) (hcd : (x == ("__classdict__" : Str)) = false := by decide)
    (he : starEach [Expr.Name x np] X.env = (false, eval (.Name x np) X.env) :: starEach [] X.env := by rfl) :
    PV X S 0 (.Call (.Name "len" p) [.Name x np] [] q) (tCB rLenM (tCons (tVar i) tNil)) (aLenM i) :=
  ⟨pe_callB call_lenD hg hm (by decide +kernel) (pa_cons (pe_var hN hvx hd hcd) pa_nil he), evw_lenM⟩
end
end Vc

set_option Elab.async false
set_option linter.all false
set_option maxRecDepth 100000
set_option maxHeartbeats 2000000
/-! sorted(d.items()) up to the sort of the pairs. -/
namespace Vc
open PySem PySem.Spec PyProof.Rows L2 PySem.W Lh Calls
section
variable {prog : Program} {w : World} {K : Type} [DecidableEq K] {knd : KeyKind prog w K} {A : Around} {E : Value → Shared → Prop} {s : Shared} {r d : Addr} {kvs : List (K × Value)} {ep : Nat}
theorem sortedK {Q : Value → Shared → Prop} (hh : A.handled = none) (hv : s.heap.IsItemsView r d) (hm : s.heap.DictAt knd d kvs ep) (hn : kvs.length ≤ sizeLine)
    (h : ∀ (h' : Heap) (tk : Nat) (as : List Addr), (∀ b o, s.heap.get? b = some o → h'.get? b = some o) → as.length = kvs.length → PySem.W.KdxG knd kvs s.heap.objs.size h' as →
      wpAny (model prog w) A.in1 (call (.builtin "list.sort") [.ref h'.objs.size]) (fun _ s' => Q (.ref h'.objs.size) s') E { s with heap := h'.push { cls := .type "list", data := .seq (as.map Value.ref).toArray }, toks := tk }) :
    wpAny (model prog w) A (call (.builtin "sorted") [.ref r]) Q E s := by
  refine call_function_entry kind_sorted plain_sorted entry_sorted (args_sorted1 _) ?_
  unfold Builtin.«sorted»
  refine wpAny_bind (m := checkCount "sorted" 1 1 _) (wpAny_pure ?_)
  refine wpAny_bind (PySem.W.kdx_collect (A := A.in1) (knd := knd) (kvs := kvs) (ep := ep) hh hv hm hn fun h' tk as hk hl hG => ?_)
  refine wpAny_bind (wpAny_newList ?_ (by rw [List.length_map, hl]; exact hn))
  have hg := h h' tk as hk hl hG
  refine wpAny_bind (wpAny_holding (wpAny_mono hg (fun _ s' x => ?_) fun _ _ e => e))
  exact wpAny_pure ⟨_, rfl, x⟩
end
end Vc
namespace Vc
open PySem PySem.Spec PyProof.Rows L2 PySem.W Lh Calls
theorem paired_idx {α β : Type} {R : α → β → Prop} : ∀ {ys : List α} {xs : List β}, ys.length = xs.length → (∀ (j : Nat) y x, ys[j]? = some y → xs[j]? = some x → R y x) → Paired R ys xs
  | [], [], _, _ => .nil
  | [], _ :: _, h, _ => by cases h
  | _ :: _, [], h, _ => by cases h
  | y :: ys, x :: xs, h, k => .cons (k 0 y x rfl rfl) (paired_idx (Nat.succ.inj h) fun j y x h1 h2 => k (j + 1) y x (by simpa using h1) (by simpa using h2))
theorem paired_at {α β : Type} {F : α → β → Prop} : ∀ {xs : List α} {ys : List β}, Paired F xs ys → ∀ {i : Nat} {x : α}, xs[i]? = some x → ∃ y, ys[i]? = some y ∧ F x y
  | _, _, .nil, i, x, h => by cases h
  | _, _, .cons r t, 0, x, h => by
    cases Option.some.inj h
    exact ⟨_, rfl, r⟩
  | _, _, .cons r t, i + 1, x, h => by
    obtain ⟨y, h1, h2⟩ := paired_at t (i := i) (x := x) (by simpa using h)
    exact ⟨y, by simpa using h1, h2⟩
theorem paired_mp {α β : Type} {F G : α → β → Prop} (k : ∀ a b, F a b → G a b) : ∀ {xs : List α} {ys : List β}, Paired F xs ys → Paired G xs ys
  | _, _, .nil => .nil
  | _, _, .cons r t => .cons (k _ _ r) (paired_mp k t)
theorem ixU {α : Type} : ∀ {l : List α} {i j : Nat} {x : α}, l.Nodup → l[i]? = some x → l[j]? = some x → i = j
  | [], i, _, x, _, h, _ => by simp at h
  | a :: l, 0, 0, _, _, _, _ => rfl
  | a :: l, 0, j + 1, x, nd, h1, h2 => by
    cases Option.some.inj (show some a = some x from h1)
    exact absurd (List.mem_of_getElem? (show l[j]? = some a by simpa using h2)) (List.nodup_cons.mp nd).1
  | a :: l, i + 1, 0, x, nd, h1, h2 => by
    cases Option.some.inj (show some a = some x from h2)
    exact absurd (List.mem_of_getElem? (show l[i]? = some a by simpa using h1)) (List.nodup_cons.mp nd).1
  | a :: l, i + 1, j + 1, x, nd, h1, h2 => congrArg (· + 1) (ixU (List.nodup_cons.mp nd).2 (by simpa using h1) (by simpa using h2))
def rSortIK (K : Frag) : List V → Hp → VK → Prop := fun vs H Q => ∃ (p a : Addr) (kvs : List (L2.Key × V)) (α : Type) (_ : DecidableEq α) (_ : DatumOrd α) (xs : List α) (G : L2.Key × V → α → Prop), vs = [V.ref p] ∧ H p = some (L2.DX.itemsO p a) ∧ H a = some (.dK kvs) ∧ Paired G kvs xs ∧
  (∀ q x, G q x → ∃ d, Datum.toD x = .tuple [kD q.1, d] ∧ Dp K H q.2 d) ∧ Datum.depth α ≤ 32 ∧ SortOk xs ∧
  ∀ H' l ys, (∀ b o, H b = some o → H' b = some o) → H l = none → H' l = some (.lst ys) → Paired (fun y x => ∃ t q, y = V.ref t ∧ H t = none ∧ t ≠ l ∧ H' t = some (.tup [kV q.1, q.2]) ∧ G q x) ys (xs.mergeSort leX) → Q (.ref l) H'
theorem cr_sortIK {X : Cx} (hc : X.calm = true) (hu : X.A.units + 64 < cLine) : CallR X (.builtin "sorted") (rSortIK X.K) := by
  intro pins s σ H vs us Q I r h
  obtain ⟨p, a, kvs, α, _, _, xs, G, rfl, hp, ha, hG, hd, h32, hk, q⟩ := h
  obtain ⟨u, rfl, ru⟩ := vals1 r
  obtain rfl : u = Value.ref p := ru
  have view : s.heap.IsItemsView p a := (show ObjOk X.prog X.w H s.heap p (L2.DX.itemsO p a) from I.hok p _ hp).1
  obtain ⟨hz, hs0, vs, kv, hdo⟩ := I.hok a _ ha
  obtain ⟨ep, hat⟩ := hdo.dictAt
  have lk : kvs.length = vs.length := Paired.length kv
  have lx : kvs.length = xs.length := Paired.length hG
  refine sortedK (knd := mixKind X.prog X.w) (kvs := vs) (ep := ep) (I.ok.hd hc) view hat (by omega) fun h' tk as hkp hl hGx => ?_
  have I1 : Inv X pins σ H { s with heap := h', toks := tk } := I.kept (t' := tk) hkp
  have nd : as.Nodup := List.Pairwise.imp (fun h => Nat.ne_of_lt h) hGx.rise
  -- the pairs
  have pr : ∀ (j : Nat) (t : Addr), as[j]? = some t → ∃ q key x, kvs[j]? = some q ∧ h'.get? t = some { cls := .type "tuple", data := .seq #[key, x] } ∧ RelV (kV q.1) key ∧ RelV q.2 x := fun j t hj => by
    obtain ⟨key, k, x, f1, f2, f3⟩ := hGx.pairs j t hj
    have hjl : j < kvs.length := by
      have := (List.getElem?_eq_some_iff.mp f1).1
      omega
    obtain ⟨y, g1, g2, g3⟩ := paired_at kv (List.getElem?_eq_getElem hjl)
    rw [f1] at g1
    cases g1
    exact ⟨_, key, x, List.getElem?_eq_getElem hjl, f3, by rw [g2]; exact relV_key (show keyIs k key = true from f2), g3⟩
  have hS : (h'.push { cls := .type "list", data := .seq (as.map Value.ref).toArray }).get? h'.objs.size = some (seqObj "list" (as.map Value.ref).toArray 0) := Heap.get?_push_size _ rfl
  have kb : ∀ b o, h'.get? b = some o → (h'.push { cls := .type "list", data := .seq (as.map Value.ref).toArray }).get? b = some o := fun b o e => Heap.get?_push_of_some _ e
  generalize hh2 : h'.push { cls := .type "list", data := .seq (as.map Value.ref).toArray } = h2 at hS kb ⊢
  have pd : Paired (fun (y : V) (x : α) => ∃ (t : Addr) (j : Nat) (q : L2.Key × V), y = V.ref t ∧ as[j]? = some t ∧ kvs[j]? = some q ∧ G q x) (as.map V.ref) xs := paired_idx (by rw [List.length_map]; omega) fun j y x h1 h2 => by
    rw [List.getElem?_map] at h1
    obtain ⟨t, ht, rfl⟩ := Option.map_eq_some_iff.mp h1
    obtain ⟨qq, key, z, e1, _⟩ := pr j t ht
    obtain ⟨x', e2, g⟩ := paired_at hG e1
    rw [h2] at e2
    cases e2
    exact ⟨t, j, qq, rfl, ht, e1, g⟩
  have each := each_of (vals_refs as) pd
  have reads : ∀ (u : Value) (x : α), (∃ v : V, RelV v u ∧ ∃ (t : Addr) (j : Nat) (q : L2.Key × V), v = V.ref t ∧ as[j]? = some t ∧ kvs[j]? = some q ∧ G q x) → ∃ bs, Reads h2 u (Datum.toD x) bs ∧ h'.objs.size ∉ bs := by
    rintro u x ⟨v, rv, t, j, qq, rfl, hj, hq, g⟩
    obtain rfl : u = Value.ref t := rv
    obtain ⟨q2, key, z, e1, e2, r1, r2⟩ := pr j t hj
    rw [hq] at e1
    cases e1
    obtain ⟨d, ed, dp⟩ := hd _ _ g
    have dk : Dp X.K H (kV qq.1) (kD qq.1) := by
      cases qq.1 with
      | inl i => exact .int i
      | inr s => exact .str s
    obtain ⟨b1, R1⟩ := Dp.reads I1 _ _ _ dk r1
    obtain ⟨b2, R2⟩ := Dp.reads I1 _ _ _ dp r2
    have R : Reads h' (.ref t) (.tuple [kD qq.1, d]) (b1 ++ (b2 ++ [])) := .tuple e2 rfl rfl (.cons R1 (.cons R2 .nil))
    refine ⟨_, ed ▸ PyProof.Rows.Reads.keeps kb R, fun hm => ?_⟩
    obtain ⟨o, ho⟩ := PyProof.On.reads_mem_get R _ hm
    exact Nat.lt_irrefl _ (Heap.lt_size ho)
  refine list_sort_data (enc := Datum.toD (α := α)) (bs := xs) (s := { s with heap := h2, toks := tk }) hS each (each.mono reads) (fun d h d' h' => ?_) ?_ (by omega) (fun b _ => ?_) fun out ho he => ?_
  · obtain ⟨x, _, rfl⟩ := List.mem_map.mp h
    obtain ⟨y, _, rfl⟩ := List.mem_map.mp h'
    exact DatumOrd.alike x y
  · rcases hk with hk | hk
    · left
      intro d h
      obtain ⟨x, hx, rfl⟩ := List.mem_map.mp h
      exact hk x hx
    · right
      intro d h
      obtain ⟨x, hx, rfl⟩ := List.mem_map.mp h
      exact ⟨DatumOrd.notNone x, hk x hx⟩
  · have := Datum.depth_le b
    show X.A.units + 1 + 1 + _ < cLine
    omega
  · have es : xs.mergeSort (dataLe false (Datum.toD (α := α))) = xs.mergeSort leX := by
      congr 1
      funext a b
      exact leX_data a b
    rw [es] at he
    obtain ⟨ys, h1, h2'⟩ := of_each he
    have kF : ∀ b o, h'.get? b = some o → (sortedHeap h2 h'.objs.size (as.map Value.ref) out.toArray).get? b = some o := fun b o e => (PyProof.Rows.sortedHeap_old (Nat.ne_of_lt (Heap.lt_size e)) (Heap.lt_size (kb b o e))).trans (kb b o e)
    obtain ⟨eF, heF⟩ := PyProof.Rows.sortedHeap_at (vs := as.map Value.ref) (out := out.toArray) hS
    have I2 : Inv X pins σ H { s with heap := sortedHeap h2 h'.objs.size (as.map Value.ref) out.toArray, toks := tk } := I.kept (t' := tk) fun b o e => kF b o (hkp b o e)
    have hn0 : H h'.objs.size = none := I1.hok.fresh (Nat.le_refl _)
    have I3 : Inv X pins σ (upd H h'.objs.size (.lst ys)) { s with heap := sortedHeap h2 h'.objs.size (as.map Value.ref) out.toArray, toks := tk } :=
      I2.take (h' := sortedHeap h2 h'.objs.size (as.map Value.ref) out.toArray) (t' := tk) (fun b ob _ e => e) (I1.fpOk (Nat.le_refl _) hn0) ⟨by rw [paired_len h2', List.length_mergeSort]; omega, out, eF, h1, heF⟩
    obtain ⟨H2, I4, g, qt⟩ := L2.DX.takeT (P := fun b zs => ∃ (j : Nat) (q : L2.Key × V), as[j]? = some b ∧ kvs[j]? = some q ∧ zs = [kV q.1, q.2]) I as _ I3 nd fun b hb => by
      obtain ⟨j, hj⟩ := List.mem_iff_getElem?.mp hb
      obtain ⟨qq, key, z, e1, e2, r1, r2⟩ := pr j b hj
      have hbl : s.heap.objs.size ≤ b := Nat.le_of_lt (hGx.above b hb)
      refine ⟨hbl, ?_, [kV qq.1, qq.2], ⟨j, qq, hj, e1, rfl⟩, fun H2 => ⟨by show 2 ≤ sizeLine; rw [sizeLine_eq]; decide, [key, z], .cons r1 (.cons r2 .nil), ⟨_, kF _ _ e2, rfl, _, rfl⟩⟩⟩
      rw [upd_ne (Nat.ne_of_lt (Heap.lt_size e2))]
      exact I.hok.fresh hbl
    refine ⟨.ref h'.objs.size, H2, I4, rfl, q H2 _ ys (fun b o e => g b o (by rw [upd_ne (ne_of_none e hn0)]; exact e)) hn0 (g _ _ upd_same) (paired_mp (fun y x k => ?_) h2')⟩
    obtain ⟨t, j, qq, rfl, hj, hq, gg⟩ := k
    obtain ⟨zs, ⟨j2, q2, e1, e2, rfl⟩, e3⟩ := qt t (List.mem_of_getElem? hj)
    have ej : j2 = j := ixU nd e1 hj
    subst ej
    rw [hq] at e2
    cases e2
    obtain ⟨_, _, _, _, e2', _⟩ := pr j2 t hj
    have hbl : s.heap.objs.size ≤ t := Nat.le_of_lt (hGx.above t (List.mem_of_getElem? hj))
    exact ⟨t, qq, rfl, I.hok.fresh hbl, Nat.ne_of_lt (Heap.lt_size e2'), e3, gg⟩
end Vc

set_option Elab.async false
set_option linter.all false
set_option maxRecDepth 100000
set_option maxHeartbeats 2000000
/-! sorted(d.items()) of a dict under change. -/
namespace Vc
open PySem PySem.Spec PyProof.Rows L2 PySem.W Lh
def rItemsK : V → List V → Hp → VK → Prop := fun x xs H Q => ∃ (a : Addr) (kvs : List (L2.Key × V)), x = .ref a ∧ xs = [] ∧ H a = some (.dK kvs) ∧ ∀ p, H p = none → Q (.ref p) (upd H p (L2.DX.itemsO p a))
theorem mt_itemsK {X : Cx} : MtR X "dict.items" rItemsK := by
  intro pins s σ H x xs v us Q I rx rxs h
  obtain ⟨a, kvs, rfl, rfl, ha, q⟩ := h
  cases rx
  cases rxs
  obtain ⟨z, hd, vs, rel, o, es, ep, ho, hx, hdat, _⟩ := dk_of I.hok ha
  refine DT.callItems (es := es) (ep := ep) hd ⟨o, ho, hx, hdat⟩ ?_
  have hf : H s.heap.objs.size = none := I.hok.fresh (Nat.le_refl _)
  exact ⟨.ref s.heap.objs.size, upd H s.heap.objs.size (L2.DX.itemsO s.heap.objs.size a), I.laid (t' := s.toks) (fun b u e => Heap.get?_push_of_some _ e) (Nat.le_refl _) (L2.DX.itemsO_ok (Heap.get?_push_size _ rfl)), rfl, q _ hf⟩
/-- sorted(x.items()), a new list -/
def aSortIt (i : Nat) : AN := fun a Q => match a[i]? with
  | some (.m kvs) => ∃ (α : Type) (_ : DecidableEq α) (_ : DatumOrd α) (xs : List α), kvs.map (fun z => PyData.tuple [kD z.1, z.2]) = xs.map (Datum.toD (α := α)) ∧ Datum.depth α ≤ 32 ∧ SortOk xs ∧ Q ((xs.mergeSort leX).map (Datum.toD (α := α)))
  | _ => False
theorem dq_key {A : Addr → Prop} {H : Hp} : ∀ k : L2.Key, Dq A H (kV k) (kD k)
  | .inl i => .int i
  | .inr s => .str s
theorem pair_up {α : Type} [DecidableEq α] [Datum α] {A : Addr → Prop} {H : Hp} : ∀ {kw : List (L2.Key × V)} {kvs : List (L2.Key × PyData)} {xs : List α}, kw.map Prod.fst = kvs.map Prod.fst → DqA A H (kw.map Prod.snd) (kvs.map Prod.snd) → kvs.map (fun z => PyData.tuple [kD z.1, z.2]) = xs.map (Datum.toD (α := α)) →
    Paired (fun (q : L2.Key × V) x => ∃ d, Datum.toD x = PyData.tuple [kD q.1, d] ∧ Dq A H q.2 d) kw xs
  | [], [], [], _, _, _ => .nil
  | [], [], _ :: _, _, _, e => by cases e
  | [], _ :: _, _, e, _, _ => by cases e
  | _ :: _, [], _, e, _, _ => by cases e
  | _ :: _, _ :: _, [], _, _, e => by cases e
  | p :: kw, z :: kvs, x :: xs, e1, .cons h t, e2 => by
    rw [List.map_cons, List.map_cons] at e1 e2
    injection e1 with a1 a2
    injection e2 with b1 b2
    exact .cons ⟨z.2, by rw [← b1, a1], h⟩ (pair_up a2 t b2)
theorem evn_sortIt {S : Stt} {K : Frag} {i : Nat} : EvN S 0 (tCB (rSortIK K) (tCons (tBM0 K "dict" rItemsK (tVar i)) tNil)) (aSortIt i) := fun m Γ a Q ok mt hh σ H E R q => by
  unfold aSortIt at hh
  split at hh
  · rename_i kvs e
    obtain ⟨α, _, _, xs, ex, h32, hk, hq⟩ := hh
    obtain ⟨p, e⟩ := mt.m e
    obtain ⟨v, h1, rfl, k1, k2, k3, o, k4, kw, rfl, e1, k5⟩ := E.sl i _ e
    refine ⟨_, h1, .inr (.inr (.inl ⟨rfl, .inl ⟨kw, k4⟩⟩)), p, kw, rfl, rfl, k4, fun v hv => ?_⟩
    have up : ∀ b o, H b = some o → upd H v (L2.DX.itemsO v p) b = some o := fun b o h => by rw [upd_ne (ne_of_none h hv)]; exact h
    have t2 : To m.A H m.A (upd H v (L2.DX.itemsO v p)) := fun b o h n => ⟨up b o h, n⟩
    refine ⟨v, p, kw, α, _, _, xs, fun q x => ∃ d, Datum.toD x = PyData.tuple [kD q.1, d] ∧ Dq m.A H q.2 d, rfl, upd_same, up _ _ k4, pair_up e1 k5 ex, fun q x ⟨d, ed, dq⟩ => ⟨d, ed, ?_⟩, h32, hk, fun H' l ys kp hl hly hps => ?_⟩
    · refine Dq.dp K ?_ (dq.to t2)
      have pl := Datum.plain x
      rw [ed] at pl
      simp only [PyData.plain, PyData.plainAll, Bool.and_eq_true] at pl
      exact pl.2.1
    · have kH : ∀ b o, H b = some o → H' b = some o := fun b o h => kp b o (up b o h)
      have hl0 : H l = none := by
        cases hz : H l with
        | none => rfl
        | some o => rw [up l o hz] at hl; cases hl
      have t3 : To m.A H (fun b => m.A b ∨ b = l) H' := fun b o h n => ⟨kH b o h, fun z => z.elim n (ne_of_none h hl0)⟩
      refine q l ys _ H' (Stp.ext kH) hl0 hly (DqA.unpaired (paired_mp (fun y x k => ?_) hps)) hq
      obtain ⟨t, qq, rfl, ht0, htl, ht, d, ed, dq⟩ := k
      have hHt : H t = none := by
        cases hz : H t with
        | none => rfl
        | some o => rw [up t o hz] at ht0; cases ht0
      rw [ed]
      exact .tup (.inl ht) (fun z => z.elim (Env.free E hHt) htl) (.cons (dq_key _) (.cons (dq.to t3) .nil))
  · exact hh.elim
theorem n_sortIt {X : Cx} {S : Stt} (K : Frag) (i : Nat) {x : Str} {np p apos cpos pos : Pos} (hc : X.calm = true) (hu : X.A.units + 64 < cLine) (hm : X.mg "sorted" = none) (hg : Gl X "sorted" := by rfl) (hK : X.K = K := by rfl) (hN : X.N[i]? = some x := by rfl) (hvx : Vis X.env.scope x := by first | exact Or.inl rfl | exact Or.inr (Or.inl rfl) | exact Or.inr (Or.inr rfl)) (hd : (x == ("__debug__" : Str)) = false := by decide) (hcd : (x == ("__classdict__" : Str)) = false := by decide)
    (hbase : attributeBase (.Name x np) "items" X.env (eval (.Name x np) X.env) = eval (.Name x np) X.env := by rfl) (hline : (apos.endLine == cpos.line) = true := by rfl)
    (he : starEach [Expr.Call (.Attribute (.Name x np) "items" apos) [] [] cpos] X.env = (false, eval (.Call (.Attribute (.Name x np) "items" apos) [] [] cpos) X.env) :: starEach [] X.env := by rfl) :
    PVN X S 0 (.Call (.Name "sorted" p) [.Call (.Attribute (.Name x np) "items" apos) [] [] cpos] [] pos) (tCB (rSortIK K) (tCons (tBM0 K "dict" rItemsK (tVar i)) tNil)) (aSortIt i) := by
  subst hK
  exact ⟨pe_callB (cr_sortIK hc hu) hg hm (by decide +kernel) (pa_cons (pe_bm0 PySem.F.plainAttrs_dict PySem.F.slot_dict_items PySem.F.type_dict_items mt_itemsK (pe_var hN hvx hd hcd) hbase hline) pa_nil he), evn_sortIt⟩
end Vc

set_option Elab.async false
set_option linter.all false
set_option maxRecDepth 100000
set_option maxHeartbeats 4000000
namespace K28
open PySem PySem.Spec L2 PySem.W Lh Vc
def topS (i : Nat) : Stmt := PySem.Challenge.pw_lothouse_k28_whole_shares_are_one.main.body.getD i (.Pass ⟨0, 0, 0, 0⟩)
/-- a def of the text -/
structure Own (K : Frag) (mg : Str → Option Value) (x : Str) (st : Stmt) (f : Addr) (fd : FuncData) (ps : List Str) : Prop where
  F : Fun K x x st f fd
  g : mg x = some (.ref f)
  b : Binds K fd ps []
def mS (i j : Nat) : Stmt := (C8.clsBody (topS i)).getD j (.Pass ⟨0, 0, 0, 0⟩)
/-- a method -/
structure OwnM (K : Frag) (C : Addr) (x q : Str) (st : Stmt) (f : Addr) (fd : FuncData) (ps : List Str) : Prop where
  F : Fun K x q st f fd
  M : Meth K C x f
  b : Binds K fd ps []
/-- the def that makes an instance -/
structure OwnI (K : Frag) (C : Addr) (x q : Str) (st : Stmt) (f : Addr) (fd : FuncData) (ps : List Str) : Prop where
  F : Fun K x q st f fd
  M : Mk K C f
  b : Binds K fd ps []
abbrev eNoShare : Addr := 65
structure Kb (K : Frag) (mg : Str → Option Value) : Prop where
  e_NoShare : ExcK K mg "NoShare" eNoShare
  m_NoShare : ∀ p ∈ ([(eNoShare, true)] : List (Addr × Bool)), PySem.W.exmOne K (.ref p.1) (.ref eNoShare) = some p.2
/-- what the names of built-ins are -/
structure Tb (mg : Str → Option Value) (cs : List (Addr × PyData)) : Prop where
  z_all : mg "all" = none
  z_bool : mg "bool" = none
  z_int : mg "int" = none
  z_isinstance : mg "isinstance" = none
  z_len : mg "len" = none
  z_list : mg "list" = none
  z_min : mg "min" = none
  z_range : mg "range" = none
  z_sorted : mg "sorted" = none
  z_str : mg "str" = none
  z_tuple : mg "tuple" = none
  z_zip : mg "zip" = none
  m_gcd : mg "gcd" = some (.builtin "math.gcd")
  c__LETTERS : ∃ t, mg "_LETTERS" = some (.str "abcdefghijklmnopqrstuvwxyz" t)
  c__MOST_HOLDERS : ∃ t, mg "_MOST_HOLDERS" = some (.int (12) t)
abbrev c__LETTERS : PyData := .str "abcdefghijklmnopqrstuvwxyz"
abbrev c__MOST_HOLDERS : PyData := .int (12)
abbrev s_is_whole : Stmt := topS 6
abbrev N_is_whole : List Str := ["thing"]
theorem sc_is_whole : FnScope N_is_whole ["thing"] (defScope s_is_whole) := ⟨rfl, rfl, rfl, by decide +kernel, rfl, by decide +kernel, by decide +kernel⟩
abbrev s_is_letters : Stmt := topS 7
abbrev N_is_letters : List Str := ["thing", "most", "sign"]
theorem sc_is_letters : FnScope N_is_letters ["thing", "most"] (defScope s_is_letters) := ⟨rfl, rfl, rfl, by decide +kernel, rfl, by decide +kernel, by decide +kernel⟩
abbrev s_is_rising : Stmt := topS 8
abbrev N_is_rising : List Str := ["things", "one", "other"]
theorem sc_is_rising : FnScope N_is_rising ["things"] (defScope s_is_rising) := ⟨rfl, rfl, rfl, by decide +kernel, rfl, by decide +kernel, by decide +kernel⟩
abbrev s_is_name : Stmt := topS 10
abbrev N_is_name : List Str := ["thing"]
theorem sc_is_name : FnScope N_is_name ["thing"] (defScope s_is_name) := ⟨rfl, rfl, rfl, by decide +kernel, rfl, by decide +kernel, by decide +kernel⟩
abbrev s_is_fraction : Stmt := topS 13
abbrev N_is_fraction : List Str := ["thing", "part", "n", "d"]
theorem sc_is_fraction : FnScope N_is_fraction ["thing"] (defScope s_is_fraction) := ⟨rfl, rfl, rfl, by decide +kernel, rfl, by decide +kernel, by decide +kernel⟩
abbrev s_lowest : Stmt := topS 14
abbrev N_lowest : List Str := ["n", "d", "common"]
theorem sc_lowest : FnScope N_lowest ["n", "d"] (defScope s_lowest) := ⟨rfl, rfl, rfl, by decide +kernel, rfl, by decide +kernel, by decide +kernel⟩
abbrev s_sum : Stmt := topS 15
abbrev N_sum : List Str := ["one", "other"]
theorem sc_sum : FnScope N_sum ["one", "other"] (defScope s_sum) := ⟨rfl, rfl, rfl, by decide +kernel, rfl, by decide +kernel, by decide +kernel⟩
abbrev s_rest : Stmt := topS 16
abbrev N_rest : List Str := ["one", "other"]
theorem sc_rest : FnScope N_rest ["one", "other"] (defScope s_rest) := ⟨rfl, rfl, rfl, by decide +kernel, rfl, by decide +kernel, by decide +kernel⟩
abbrev s_is_part : Stmt := topS 17
abbrev N_is_part : List Str := ["thing"]
theorem sc_is_part : FnScope N_is_part ["thing"] (defScope s_is_part) := ⟨rfl, rfl, rfl, by decide +kernel, rfl, by decide +kernel, by decide +kernel⟩
abbrev s_is_holding : Stmt := topS 18
abbrev N_is_holding : List Str := ["thing", "part", "name", "_", "whole", "share"]
theorem sc_is_holding : FnScope N_is_holding ["thing"] (defScope s_is_holding) := ⟨rfl, rfl, rfl, by decide +kernel, rfl, by decide +kernel, by decide +kernel⟩
abbrev s_sole : Stmt := topS 19
abbrev N_sole : List Str := ["name"]
theorem sc_sole : FnScope N_sole ["name"] (defScope s_sole) := ⟨rfl, rfl, rfl, by decide +kernel, rfl, by decide +kernel, by decide +kernel⟩
abbrev s_held : Stmt := topS 20
abbrev N_held : List Str := ["holding", "name", "holder", "share"]
theorem sc_held : FnScope N_held ["holding", "name"] (defScope s_held) := ⟨rfl, rfl, rfl, by decide +kernel, rfl, by decide +kernel, by decide +kernel⟩
abbrev s_passed : Stmt := topS 21
abbrev N_passed : List Str := ["holding", "giver", "taker", "part", "shares", "name", "share", "left"]
theorem sc_passed : FnScope N_passed ["holding", "giver", "taker", "part"] (defScope s_passed) := ⟨rfl, rfl, rfl, by decide +kernel, rfl, by decide +kernel, by decide +kernel⟩
abbrev s_law_begun : Stmt := topS 23
abbrev N_law_begun : List Str := ["script", "wide", "cell"]
theorem sc_law_begun : FnScope N_law_begun ["script"] (defScope s_law_begun) := ⟨rfl, rfl, rfl, by decide +kernel, rfl, by decide +kernel, by decide +kernel⟩
abbrev s_law_mixed : Stmt := topS 24
abbrev N_law_mixed : List Str := ["state", "turn", "found", "prime", "blend", "cell"]
theorem sc_law_mixed : FnScope N_law_mixed ["state"] (defScope s_law_mixed) := ⟨rfl, rfl, rfl, by decide +kernel, rfl, by decide +kernel, by decide +kernel⟩
abbrev s_law_take : Stmt := topS 25
abbrev N_law_take : List Str := ["state", "many", "found"]
theorem sc_law_take : FnScope N_law_take ["state", "many"] (defScope s_law_take) := ⟨rfl, rfl, rfl, by decide +kernel, rfl, by decide +kernel, by decide +kernel⟩
abbrev W_law_take := Vc.W_take
abbrev s_law_pick : Stmt := topS 26
abbrev N_law_pick : List Str := ["state", "some"]
theorem sc_law_pick : FnScope N_law_pick ["state", "some"] (defScope s_law_pick) := ⟨rfl, rfl, rfl, by decide +kernel, rfl, by decide +kernel, by decide +kernel⟩
abbrev s_law_names : Stmt := topS 27
abbrev N_law_names : List Str := ["state", "many", "letters", "own", "found", "k", "name", "sign", "spare", "letter", "one"]
theorem sc_law_names : FnScope N_law_names ["state", "many"] (defScope s_law_names) := ⟨rfl, rfl, rfl, by decide +kernel, rfl, by decide +kernel, by decide +kernel⟩
abbrev s_law_shared : Stmt := topS 28
abbrev N_law_shared : List Str := ["one", "other"]
theorem sc_law_shared : FnScope N_law_shared ["one", "other"] (defScope s_law_shared) := ⟨rfl, rfl, rfl, by decide +kernel, rfl, by decide +kernel, by decide +kernel⟩
abbrev s_law_lowest : Stmt := topS 29
abbrev N_law_lowest : List Str := ["upper", "below", "by"]
theorem sc_law_lowest : FnScope N_law_lowest ["upper", "below"] (defScope s_law_lowest) := ⟨rfl, rfl, rfl, by decide +kernel, rfl, by decide +kernel, by decide +kernel⟩
abbrev s_law_fraction : Stmt := topS 30
abbrev N_law_fraction : List Str := ["state", "below"]
theorem sc_law_fraction : FnScope N_law_fraction ["state"] (defScope s_law_fraction) := ⟨rfl, rfl, rfl, by decide +kernel, rfl, by decide +kernel, by decide +kernel⟩
abbrev s_law_tried : Stmt := topS 31
abbrev N_law_tried : List Str := ["rows", "first", "second", "part", "found"]
theorem sc_law_tried : FnScope N_law_tried ["rows", "first", "second", "part"] (defScope s_law_tried) := ⟨rfl, rfl, rfl, by decide +kernel, rfl, by decide +kernel, by decide +kernel⟩
abbrev s_law_others_stay : Stmt := topS 32
abbrev N_law_others_stay : List Str := ["rows", "found", "names", "others", "row"]
theorem sc_law_others_stay : FnScope N_law_others_stay ["rows", "found", "names"] (defScope s_law_others_stay) := ⟨rfl, rfl, rfl, by decide +kernel, rfl, by decide +kernel, by decide +kernel⟩
abbrev s_law_halves : Stmt := topS 33
abbrev N_law_halves : List Str := ["rows", "first", "second", "part", "half", "one"]
theorem sc_law_halves : FnScope N_law_halves ["rows", "first", "second", "part"] (defScope s_law_halves) := ⟨rfl, rfl, rfl, by decide +kernel, rfl, by decide +kernel, by decide +kernel⟩
abbrev s_law_step_right : Stmt := topS 34
abbrev N_law_step_right : List Str := ["state", "rows", "names", "found", "deal", "first", "second", "part"]
theorem sc_law_step_right : FnScope N_law_step_right ["state", "rows", "names", "found", "deal"] (defScope s_law_step_right) := ⟨rfl, rfl, rfl, by decide +kernel, rfl, by decide +kernel, by decide +kernel⟩
abbrev s_law : Stmt := topS 35
abbrev N_law : List Str := ["script", "state", "names", "rows", "turn", "first", "second", "row", "has", "less_of", "part", "found", "third", "more", "free", "one", "ahead"]
theorem sc_law : FnScope N_law ["script"] (defScope s_law) := ⟨rfl, rfl, rfl, by decide +kernel, rfl, by decide +kernel, by decide +kernel⟩
/-- is_whole, level 1 -/
@[irreducible] def W_is_whole : List PyData → (PyData → Prop) → Prop := fnW false 1 1
    (Vc.aRet (Vc.aAnd (Vc.aIsi Vc.isInt (Vc.aV 0)) (Vc.aNot (Vc.aIsi Vc.isBool (Vc.aV 0)))))
/-- is_letters, level 1 -/
@[irreducible] def W_is_letters : List PyData → (PyData → Prop) → Prop := fnW false 2 3
    (Vc.aRet (Vc.aAnd (Vc.aIsi Vc.isStr (Vc.aV 0)) (Vc.aAnd (Vc.aChain Vc.gLe Vc.gLe (Vc.aC (.int 1)) (Vc.aB Vc.gLenA (Vc.aCons (Vc.aV 0) Vc.aNil)) (Vc.aV 1)) (Vc.aR Vc.gAll (Vc.aNS (Vc.aLc (Vc.aiS (Vc.aV 0)) (Vc.agV 2) Vc.aYes (Vc.aOp (Vc.gInS false) (Vc.aV 2) (Vc.aC c__LETTERS)) [2]))))))
/-- is_rising, level 1 -/
@[irreducible] def W_is_rising : List PyData → (PyData → Prop) → Prop := fnW false 1 3
    (Vc.aRet (Vc.aR Vc.gAll (Vc.aNS (Vc.aLc (Vc.aiZ (Vc.aV 0) (Vc.aNE (Vc.aSlL (Vc.aS 0) (Vc.aOSome (Vc.aC (.int 1))) Vc.aONone))) (Vc.agTup (Vc.agCons (Vc.agV 1) (Vc.agCons (Vc.agV 2) Vc.agNil))) Vc.aYes (Vc.aOp (Vc.gLtX fun p _ => p) (Vc.aV 1) (Vc.aV 2)) [1, 2]))))
/-- is_name, level 2 -/
@[irreducible] def W_is_name : List PyData → (PyData → Prop) → Prop := fnW false 1 1
    (Vc.aRet (Vc.aCall W_is_letters (Vc.aCons (Vc.aV 0) (Vc.aCons (Vc.aC (.int 8)) Vc.aNil))))
/-- is_fraction, level 2 -/
@[irreducible] def W_is_fraction : List PyData → (PyData → Prop) → Prop := fnW false 1 4
    (Vc.aSeq (Vc.aIfS (Vc.aTOr (Vc.aTNot (Vc.aT (Vc.aIsi Vc.isTup (Vc.aV 0)))) (Vc.aTOr (Vc.aT (Vc.aOp (Vc.gEq true) (Vc.aR Vc.gLen (Vc.aS 0)) (Vc.aC (.int 2)))) (Vc.aTNot (Vc.aT (Vc.aR Vc.gAll (Vc.aNS (Vc.aLc (Vc.aiT (Vc.aV 0)) (Vc.agV 1) Vc.aYes (Vc.aCall W_is_whole (Vc.aCons (Vc.aV 1) Vc.aNil)) [1])))))))
    (Vc.aRet (Vc.aC (.bool false)))
    Vc.aNext)
    (Vc.aSeq (Vc.aAsg (Vc.aV 0) (Vc.agTup (Vc.agCons (Vc.agV 2) (Vc.agCons (Vc.agV 3) Vc.agNil))))
    (Vc.aRet (Vc.aAnd (Vc.aChain Vc.gLe Vc.gLe (Vc.aC (.int 1)) (Vc.aV 2) (Vc.aV 3)) (Vc.aOp (Vc.gEq false) (Vc.aB Vc.gGcd (Vc.aCons (Vc.aV 2) (Vc.aCons (Vc.aV 3) Vc.aNil))) (Vc.aC (.int 1)))))))
/-- _lowest, level 1 -/
@[irreducible] def W_lowest : List PyData → (PyData → Prop) → Prop := fnW false 2 3
    (Vc.aSeq (Vc.aSet 2 (Vc.aB Vc.gGcd (Vc.aCons (Vc.aV 0) (Vc.aCons (Vc.aV 1) Vc.aNil))))
    (Vc.aRet (Vc.aTup (Vc.aCons (Vc.aOp Vc.gDivW (Vc.aV 0) (Vc.aV 2)) (Vc.aCons (Vc.aOp Vc.gDivW (Vc.aV 1) (Vc.aV 2)) Vc.aNil)))))
/-- _sum, level 2 -/
@[irreducible] def W_sum : List PyData → (PyData → Prop) → Prop := fnW false 2 2
    (Vc.aRet (Vc.aCall W_lowest (Vc.aCons (Vc.aOp Vc.gAdd (Vc.aOp Vc.gMulX (Vc.aIx (Vc.aS 0) (Vc.aC (.int 0))) (Vc.aIx (Vc.aS 1) (Vc.aC (.int 1)))) (Vc.aOp Vc.gMulX (Vc.aIx (Vc.aS 1) (Vc.aC (.int 0))) (Vc.aIx (Vc.aS 0) (Vc.aC (.int 1))))) (Vc.aCons (Vc.aOp Vc.gMulX (Vc.aIx (Vc.aS 0) (Vc.aC (.int 1))) (Vc.aIx (Vc.aS 1) (Vc.aC (.int 1)))) Vc.aNil))))
/-- _rest, level 2 -/
@[irreducible] def W_rest : List PyData → (PyData → Prop) → Prop := fnW false 2 2
    (Vc.aRet (Vc.aCall W_lowest (Vc.aCons (Vc.aOp Vc.gSub (Vc.aOp Vc.gMulX (Vc.aIx (Vc.aS 0) (Vc.aC (.int 0))) (Vc.aIx (Vc.aS 1) (Vc.aC (.int 1)))) (Vc.aOp Vc.gMulX (Vc.aIx (Vc.aS 1) (Vc.aC (.int 0))) (Vc.aIx (Vc.aS 0) (Vc.aC (.int 1))))) (Vc.aCons (Vc.aOp Vc.gMulX (Vc.aIx (Vc.aS 0) (Vc.aC (.int 1))) (Vc.aIx (Vc.aS 1) (Vc.aC (.int 1)))) Vc.aNil))))
/-- _is_part, level 3 -/
@[irreducible] def W_is_part : List PyData → (PyData → Prop) → Prop := fnW false 1 1
    (Vc.aRet (Vc.aAnd (Vc.aIsi Vc.isTup (Vc.aV 0)) (Vc.aAnd (Vc.aOp (Vc.gEq false) (Vc.aR Vc.gLen (Vc.aS 0)) (Vc.aC (.int 2))) (Vc.aAnd (Vc.aCall W_is_name (Vc.aCons (Vc.aIx (Vc.aS 0) (Vc.aC (.int 0))) Vc.aNil)) (Vc.aCall W_is_fraction (Vc.aCons (Vc.aIx (Vc.aS 0) (Vc.aC (.int 1))) Vc.aNil))))))
/-- is_holding, level 4 -/
@[irreducible] def W_is_holding : List PyData → (PyData → Prop) → Prop := fnW false 1 6
    (Vc.aSeq (Vc.aIfS (Vc.aTOr (Vc.aTNot (Vc.aT (Vc.aIsi Vc.isTup (Vc.aV 0)))) (Vc.aTNot (Vc.aT (Vc.aChain Vc.gLe Vc.gLe (Vc.aC (.int 1)) (Vc.aR Vc.gLen (Vc.aS 0)) (Vc.aC c__MOST_HOLDERS)))))
    (Vc.aRet (Vc.aC (.bool false)))
    Vc.aNext)
    (Vc.aSeq (Vc.aIfS (Vc.aTOr (Vc.aTNot (Vc.aT (Vc.aR Vc.gAll (Vc.aNS (Vc.aLc (Vc.aiT (Vc.aV 0)) (Vc.agV 1) Vc.aYes (Vc.aCall W_is_part (Vc.aCons (Vc.aV 1) Vc.aNil)) [1]))))) (Vc.aTNot (Vc.aT (Vc.aCall W_is_rising (Vc.aCons (Vc.aNE (Vc.aLc (Vc.aiT (Vc.aV 0)) (Vc.agTup (Vc.agCons (Vc.agV 2) (Vc.agCons (Vc.agV 3) Vc.agNil))) Vc.aYes (Vc.aV 2) [2, 3])) Vc.aNil)))))
    (Vc.aRet (Vc.aC (.bool false)))
    Vc.aNext)
    (Vc.aSeq (Vc.aSet 4 (Vc.aTup (Vc.aCons (Vc.aC (.int 0)) (Vc.aCons (Vc.aC (.int 1)) Vc.aNil))))
    (Vc.aSeq (Vc.aFor (Vc.aiT (Vc.aV 0)) (Vc.agTup (Vc.agCons (Vc.agV 3) (Vc.agCons (Vc.agV 5) Vc.agNil)))
    (Vc.aSet 4 (Vc.aCall W_sum (Vc.aCons (Vc.aV 4) (Vc.aCons (Vc.aV 5) Vc.aNil)))))
    (Vc.aRet (Vc.aOp (Vc.gEq false) (Vc.aV 4) (Vc.aTup (Vc.aCons (Vc.aC (.int 1)) (Vc.aCons (Vc.aC (.int 1)) Vc.aNil)))))))))
/-- sole, level 1 -/
@[irreducible] def W_sole : List PyData → (PyData → Prop) → Prop := fnW false 1 1
    (Vc.aRet (Vc.aTup (Vc.aCons (Vc.aTup (Vc.aCons (Vc.aV 0) (Vc.aCons (Vc.aTup (Vc.aCons (Vc.aC (.int 1)) (Vc.aCons (Vc.aC (.int 1)) Vc.aNil))) Vc.aNil))) Vc.aNil)))
/-- held, level 1 -/
@[irreducible] def W_held : List PyData → (PyData → Prop) → Prop := fnW false 2 4
    (Vc.aSeq (Vc.aFor (Vc.aiT (Vc.aV 0)) (Vc.agTup (Vc.agCons (Vc.agV 2) (Vc.agCons (Vc.agV 3) Vc.agNil)))
    (Vc.aIfS (Vc.aT (Vc.aOp (Vc.gEq false) (Vc.aV 2) (Vc.aV 1)))
    (Vc.aRet (Vc.aV 3))
    Vc.aNext))
    (Vc.aRet (Vc.aC .none)))
/-- passed, level 3, may raise -/
@[irreducible] def W_passed : W3 := fnX false 4 8
    (xSeq (xIf (Vc.aTOr (Vc.aTNot (Vc.aT (Vc.aCall W_is_name (Vc.aCons (Vc.aV 1) Vc.aNil)))) (Vc.aTOr (Vc.aTNot (Vc.aT (Vc.aCall W_is_name (Vc.aCons (Vc.aV 2) Vc.aNil)))) (Vc.aTOr (Vc.aT (Vc.aOp (Vc.gEq false) (Vc.aV 1) (Vc.aV 2))) (Vc.aTNot (Vc.aT (Vc.aCall W_is_fraction (Vc.aCons (Vc.aV 3) Vc.aNil)))))))
    (xRaise eNoShare)
    (xC Vc.aNext))
    (xSeq (xC (aSetDc 4 (Vc.aiT (Vc.aV 0)) (Vc.agTup (Vc.agCons (Vc.agV 5) (Vc.agCons (Vc.agV 6) Vc.agNil))) Vc.aYes (Vc.aV 5) (Vc.aV 6) [5, 6]))
    (xSeq (xC (Vc.aSet 7 (Vc.aCall W_rest (Vc.aCons (Vc.aGetM 4 (Vc.aV 1) (Vc.aTup (Vc.aCons (Vc.aC (.int 0)) (Vc.aCons (Vc.aC (.int 1)) Vc.aNil)))) (Vc.aCons (Vc.aV 3) Vc.aNil)))))
    (xSeq (xIf (Vc.aT (Vc.aOp Vc.gLt (Vc.aIx (Vc.aS 7) (Vc.aC (.int 0))) (Vc.aC (.int 0))))
    (xRaise eNoShare)
    (xC Vc.aNext))
    (xSeq (xC (Vc.aPutM 4 (Vc.aV 1) (Vc.aV 7)))
    (xSeq (xC (Vc.aPutM 4 (Vc.aV 2) (Vc.aCall W_sum (Vc.aCons (Vc.aGetM 4 (Vc.aV 2) (Vc.aTup (Vc.aCons (Vc.aC (.int 0)) (Vc.aCons (Vc.aC (.int 1)) Vc.aNil)))) (Vc.aCons (Vc.aV 3) Vc.aNil)))))
    (xSeq (xC (Vc.aIfS (Vc.aT (Vc.aOp (Vc.gEq false) (Vc.aIx (Vc.aS 7) (Vc.aC (.int 0))) (Vc.aC (.int 0))))
    (aDelM 4 (Vc.aV 1))
    Vc.aNext))
    (xSeq (xIf (Vc.aT (Vc.aOp Vc.gGt (aLenM 4) (Vc.aC c__MOST_HOLDERS)))
    (xRaise eNoShare)
    (xC Vc.aNext))
    (xC (Vc.aRet (Vc.aR Vc.gTuple (Vc.aNS (aSortIt 4)))))))))))))
/-- _law_pick, level 3, draws -/
@[irreducible] def W_law_pick : List PyData → (PyData → Prop) → Prop := fnWS false 1 2
    (Vc.aRet (Vc.aOp Vc.gIxA (Vc.aV 1) (Vc.aCallS 0 W_law_take (Vc.aCons (Vc.aB Vc.gLenA (Vc.aCons (Vc.aV 1) Vc.aNil)) Vc.aNil))))
/-- _law_names, level 4, draws -/
@[irreducible] def W_law_names : List PyData → (PyData → Prop) → Prop := fnWS true 1 11
    (Vc.aSeq (Vc.aSet 2 (Vc.aC (.str "abcdefghijklmnopqrstuvwxyz")))
    (Vc.aSeq (Vc.aSet 3 (Vc.aNE (Vc.aCons (Vc.aC (.str "lot")) (Vc.aCons (Vc.aC (.str "grant")) (Vc.aCons (Vc.aC (.str "give")) (Vc.aCons (Vc.aC (.str "split")) (Vc.aCons (Vc.aC (.str "join")) (Vc.aCons (Vc.aC (.str "way")) (Vc.aCons (Vc.aC (.str "free")) (Vc.aCons (Vc.aC (.str "slip")) (Vc.aCons (Vc.aC (.str "done")) (Vc.aCons (Vc.aC (.str "void")) (Vc.aCons (Vc.aC (.str "least")) (Vc.aCons (Vc.aC (.str "none")) Vc.aNil))))))))))))))
    (Vc.aSeq (Vc.aSetN 4 Vc.aNil)
    (Vc.aSeq (Vc.aForC (Vc.aiR1 (Vc.aV 1)) (Vc.agV 5)
    (Vc.aSeq (Vc.aSet 6 (Vc.aCallS 0 W_law_pick (Vc.aCons (Vc.aV 3) Vc.aNil)))
    (Vc.aSeq (Vc.aIfS (Vc.aT (Vc.aOp Vc.gGt (Vc.aCallS 0 W_law_take (Vc.aCons (Vc.aC (.int 3)) Vc.aNil)) (Vc.aC (.int 0))))
    (Vc.aSet 6 (Vc.aJoin (Vc.aC (.str "")) (Vc.aNS (Vc.aLc (Vc.aiR1 (Vc.aOp Vc.gAdd (Vc.aC (.int 1)) (Vc.aCallS 0 W_law_take (Vc.aCons (Vc.aC (.int 8)) Vc.aNil)))) (Vc.agV 7) Vc.aYes (Vc.aCallS 0 W_law_pick (Vc.aCons (Vc.aV 2) Vc.aNil)) [7]))))
    Vc.aNext)
    (Vc.aSeq (Vc.aSet 8 (Vc.aNE (Vc.aCatL (Vc.aNS (Vc.aCatL (Vc.aNS (Vc.aCons (Vc.aV 6) Vc.aNil)) (Vc.aNS (Vc.aLc (Vc.aiS (Vc.aV 2)) (Vc.agV 9) Vc.aYes (Vc.aOp Vc.gAddS (Vc.aSlS (Vc.aV 6) Vc.aONone (Vc.aOSome (Vc.aC (.int 7)))) (Vc.aV 9)) [9])))) (Vc.aNS (Vc.aLc (Vc.aiS (Vc.aV 2)) (Vc.agV 9) Vc.aYes (Vc.aOp Vc.gAddS (Vc.aOp Vc.gAddS (Vc.aC (.str "q")) (Vc.aSlS (Vc.aV 6) Vc.aONone (Vc.aOSome (Vc.aC (.int 6))))) (Vc.aV 9)) [9])))))
    (Vc.aApp 4 (Vc.aIx (Vc.aNS (Vc.aLc (Vc.aiL (Vc.aV 8)) (Vc.agV 10) (Vc.aT (Vc.aOpS (Vc.gIn true) (Vc.aV 10) (Vc.aS 4))) (Vc.aV 10) [10])) (Vc.aC (.int 0))))))))
    (Vc.aRetB 4)))))
/-- _law_shared, level 1 -/
@[irreducible] def W_law_shared : List PyData → (PyData → Prop) → Prop := fnW false 2 2
    (Vc.aSeq (Vc.aWhile (Vc.aT (Vc.aOp (Vc.gEq true) (Vc.aV 1) (Vc.aC (.int 0))))
    (Vc.aPar 0 1 (Vc.aCons (Vc.aV 1) (Vc.aCons (Vc.aOp Vc.gMod (Vc.aV 0) (Vc.aV 1)) Vc.aNil))))
    (Vc.aRet (Vc.aV 0)))
/-- _law_lowest, level 2 -/
@[irreducible] def W_law_lowest : List PyData → (PyData → Prop) → Prop := fnW false 2 3
    (Vc.aSeq (Vc.aSet 2 (Vc.aCall W_law_shared (Vc.aCons (Vc.aV 0) (Vc.aCons (Vc.aV 1) Vc.aNil))))
    (Vc.aRet (Vc.aTup (Vc.aCons (Vc.aOp Vc.gDivW (Vc.aV 0) (Vc.aV 2)) (Vc.aCons (Vc.aOp Vc.gDivW (Vc.aV 1) (Vc.aV 2)) Vc.aNil)))))
/-- _law_fraction, level 3, draws -/
@[irreducible] def W_law_fraction : List PyData → (PyData → Prop) → Prop := fnWS false 0 2
    (Vc.aSeq (Vc.aSet 1 (Vc.aOp Vc.gAdd (Vc.aC (.int 1)) (Vc.aCallS 0 W_law_take (Vc.aCons (Vc.aIx (Vc.aNS (Vc.aCons (Vc.aC (.int 4)) (Vc.aCons (Vc.aC (.int 12)) Vc.aNil))) (Vc.aCallS 0 W_law_take (Vc.aCons (Vc.aC (.int 2)) Vc.aNil))) Vc.aNil))))
    (Vc.aRet (Vc.aCall W_law_lowest (Vc.aCons (Vc.aOp Vc.gAdd (Vc.aC (.int 1)) (Vc.aCallS 0 W_law_take (Vc.aCons (Vc.aV 1) Vc.aNil))) (Vc.aCons (Vc.aV 1) Vc.aNil)))))
/-- _law_tried, level 4 -/
@[irreducible] def W_law_tried : List PyData → (PyData → Prop) → Prop := fnW false 4 5
    (Vc.aSeq (Vc.aSet 4 (Vc.aC .none))
    (Vc.aSeq (xTry 4 W_passed (Vc.aCons (Vc.aV 0) (Vc.aCons (Vc.aV 1) (Vc.aCons (Vc.aV 2) (Vc.aCons (Vc.aV 3) Vc.aNil)))) (subL [(eNoShare, true)]) (Vc.aSet 4 (Vc.aC .none)) fun _ => False)
    (Vc.aRet (Vc.aV 4))))
/-- _law_others_stay, level 1 -/
@[irreducible] def W_law_others_stay : List PyData → (PyData → Prop) → Prop := fnW false 3 5
    (Vc.aSeq (Vc.aSet 3 (Vc.aNE (Vc.aLc (Vc.aiT (Vc.aV 0)) (Vc.agV 4) (Vc.aT (Vc.aOpS (Vc.gIn true) (Vc.aIx (Vc.aS 4) (Vc.aC (.int 0))) (Vc.aS 2))) (Vc.aV 4) [4])))
    (Vc.aRet (Vc.aOp (Vc.gEq false) (Vc.aV 3) (Vc.aNE (Vc.aLc (Vc.aiT (Vc.aV 1)) (Vc.agV 4) (Vc.aT (Vc.aOpS (Vc.gIn true) (Vc.aIx (Vc.aS 4) (Vc.aC (.int 0))) (Vc.aS 2))) (Vc.aV 4) [4])))))
/-- _law_halves, level 5 -/
@[irreducible] def W_law_halves : List PyData → (PyData → Prop) → Prop := fnW false 4 6
    (Vc.aSeq (Vc.aSet 4 (Vc.aCall W_law_lowest (Vc.aCons (Vc.aIx (Vc.aS 3) (Vc.aC (.int 0))) (Vc.aCons (Vc.aOp Vc.gMulX (Vc.aIx (Vc.aS 3) (Vc.aC (.int 1))) (Vc.aC (.int 2))) Vc.aNil))))
    (Vc.aSeq (Vc.aSet 5 (Vc.aCall W_law_tried (Vc.aCons (Vc.aV 0) (Vc.aCons (Vc.aV 1) (Vc.aCons (Vc.aV 2) (Vc.aCons (Vc.aV 4) Vc.aNil))))))
    (Vc.aSeq (Vc.aIfS (Vc.aTAnd (Vc.aT (Vc.aOp (Vc.gIsN false) (Vc.aV 5) (Vc.aC .none))) (Vc.aT (Vc.aOp (Vc.gEq false) (Vc.aR Vc.gLen (Vc.aS 0)) (Vc.aC (.int 12)))))
    (Vc.aRet (Vc.aC (.bool true)))
    Vc.aNext)
    (Vc.aSeq (Vc.aIfS (Vc.aT (Vc.aOp (Vc.gIsN false) (Vc.aV 5) (Vc.aC .none)))
    (Vc.aRet (Vc.aC (.bool false)))
    Vc.aNext)
    (Vc.aRet (Vc.aOp (Vc.gEqD false) (Vc.aCall W_law_tried (Vc.aCons (Vc.aV 5) (Vc.aCons (Vc.aV 1) (Vc.aCons (Vc.aV 2) (Vc.aCons (Vc.aV 4) Vc.aNil))))) (Vc.aCall W_law_tried (Vc.aCons (Vc.aV 0) (Vc.aCons (Vc.aV 1) (Vc.aCons (Vc.aV 2) (Vc.aCons (Vc.aV 3) Vc.aNil)))))))))))
/-- _law_step_right, level 6, draws -/
@[irreducible] def W_law_step_right : List PyData → (PyData → Prop) → Prop := fnWS false 4 8
    (Vc.aSeq (Vc.aAsg (Vc.aV 4) (Vc.agTup (Vc.agCons (Vc.agV 5) (Vc.agCons (Vc.agV 6) (Vc.agCons (Vc.agV 7) Vc.agNil)))))
    (Vc.aSeq (Vc.aIfS (Vc.aTOr (Vc.aTNot (Vc.aT (Vc.aCall W_is_holding (Vc.aCons (Vc.aV 3) Vc.aNil)))) (Vc.aTNot (Vc.aT (Vc.aCall W_law_others_stay (Vc.aCons (Vc.aV 1) (Vc.aCons (Vc.aV 3) (Vc.aCons (Vc.aNE (Vc.aCons (Vc.aV 5) (Vc.aCons (Vc.aV 6) Vc.aNil))) Vc.aNil)))))))
    (Vc.aRet (Vc.aC (.bool false)))
    Vc.aNext)
    (Vc.aSeq (Vc.aIfS (Vc.aTOr (Vc.aT (Vc.aOp (Vc.gEq true) (Vc.aCall (calm W_passed) (Vc.aCons (Vc.aV 3) (Vc.aCons (Vc.aV 6) (Vc.aCons (Vc.aV 5) (Vc.aCons (Vc.aV 7) Vc.aNil))))) (Vc.aV 1))) (Vc.aTNot (Vc.aT (Vc.aCall W_law_halves (Vc.aCons (Vc.aV 1) (Vc.aCons (Vc.aV 5) (Vc.aCons (Vc.aV 6) (Vc.aCons (Vc.aV 7) Vc.aNil))))))))
    (Vc.aRet (Vc.aC (.bool false)))
    Vc.aNext)
    (Vc.aRet (Vc.aOr (Vc.aOp (Vc.gEq true) (Vc.aCall W_held (Vc.aCons (Vc.aV 1) (Vc.aCons (Vc.aV 5) Vc.aNil))) (Vc.aV 7)) (Vc.aOp (Vc.gIsN false) (Vc.aCall W_held (Vc.aCons (Vc.aV 3) (Vc.aCons (Vc.aV 5) Vc.aNil))) (Vc.aC .none)))))))
/-- the law, level 7 -/
def A_law (K : Frag) : AS :=
    (Vc.aSeq (Vc.aSet 2 (Vc.aNE (Vc.aCallSN 1 W_law_names (Vc.aCons (Vc.aC (.int 13)) Vc.aNil))))
    (Vc.aSeq (Vc.aSet 3 (Vc.aCall W_sole (Vc.aCons (Vc.aIx (Vc.aS 2) (Vc.aC (.int 0))) Vc.aNil)))
    (Vc.aSeq (Vc.aForC (Vc.aiR1 (Vc.aOp Vc.gAdd (Vc.aC (.int 8)) (Vc.aB Vc.gMin2 (Vc.aCons (Vc.aC (.int 22)) (Vc.aCons (aLenS K 0) Vc.aNil))))) (Vc.agV 4)
    (Vc.aSeq (Vc.aPar 5 6 (Vc.aCons (Vc.aCallS 1 W_law_pick (Vc.aCons (Vc.aNE (Vc.aLc (Vc.aiT (Vc.aV 3)) (Vc.agV 7) Vc.aYes (Vc.aIx (Vc.aS 7) (Vc.aC (.int 0))) [7])) Vc.aNil)) (Vc.aCons (Vc.aCallS 1 W_law_pick (Vc.aCons (Vc.aV 2) Vc.aNil)) Vc.aNil)))
    (Vc.aSeq (Vc.aSet 8 (Vc.aCall W_held (Vc.aCons (Vc.aV 3) (Vc.aCons (Vc.aV 5) Vc.aNil))))
    (Vc.aSeq (Vc.aSet 9 (Vc.aCall W_law_lowest (Vc.aCons (Vc.aIx (Vc.aS 8) (Vc.aC (.int 0))) (Vc.aCons (Vc.aOp Vc.gMulX (Vc.aIx (Vc.aS 8) (Vc.aC (.int 1))) (Vc.aOp Vc.gAdd (Vc.aC (.int 1)) (Vc.aCallS 1 W_law_take (Vc.aCons (Vc.aC (.int 5)) Vc.aNil)))) Vc.aNil))))
    (Vc.aSeq (Vc.aSet 10 (Vc.aCallS 1 W_law_pick (Vc.aCons (Vc.aNE (Vc.aCons (Vc.aV 8) (Vc.aCons (Vc.aV 9) (Vc.aCons (Vc.aCallS 1 W_law_fraction Vc.aNil) Vc.aNil)))) Vc.aNil)))
    (Vc.aSeq (Vc.aSet 11 (Vc.aCall W_law_tried (Vc.aCons (Vc.aV 3) (Vc.aCons (Vc.aV 5) (Vc.aCons (Vc.aV 6) (Vc.aCons (Vc.aV 10) Vc.aNil))))))
    (Vc.aIfS (Vc.aT (Vc.aOp (Vc.gIsN true) (Vc.aV 11) (Vc.aC .none)))
    (Vc.aSeq (Vc.aIfS (Vc.aTNot (Vc.aT (Vc.aCallS 1 W_law_step_right (Vc.aCons (Vc.aV 3) (Vc.aCons (Vc.aV 2) (Vc.aCons (Vc.aV 11) (Vc.aCons (Vc.aTup (Vc.aCons (Vc.aV 5) (Vc.aCons (Vc.aV 6) (Vc.aCons (Vc.aV 10) Vc.aNil)))) Vc.aNil)))))))
    (Vc.aRet (Vc.aC (.bool false)))
    Vc.aNext)
    (Vc.aSeq (Vc.aSet 12 (Vc.aCallS 1 W_law_pick (Vc.aCons (Vc.aNE (Vc.aLc (Vc.aiT (Vc.aV 3)) (Vc.agV 7) Vc.aYes (Vc.aIx (Vc.aS 7) (Vc.aC (.int 0))) [7])) Vc.aNil)))
    (Vc.aSeq (Vc.aSet 13 (Vc.aCall W_held (Vc.aCons (Vc.aV 3) (Vc.aCons (Vc.aV 12) Vc.aNil))))
    (Vc.aSeq (Vc.aSet 14 (Vc.aAnd (Vc.aOpS (Vc.gIn true) (Vc.aV 12) (Vc.aSE (Vc.aTup (Vc.aCons (Vc.aV 5) (Vc.aCons (Vc.aV 6) Vc.aNil))))) (Vc.aOp Vc.gLt (Vc.aB Vc.gLenA (Vc.aCons (Vc.aV 11) Vc.aNil)) (Vc.aC (.int 12)))))
    (Vc.aSeq (Vc.aIfS (Vc.aTAnd (Vc.aT (Vc.aV 14)) (Vc.aT (Vc.aOp (Vc.gIsN true) (Vc.aCall W_law_tried (Vc.aCons (Vc.aV 3) (Vc.aCons (Vc.aV 12) (Vc.aCons (Vc.aV 6) (Vc.aCons (Vc.aV 13) Vc.aNil))))) (Vc.aC .none))))
    (Vc.aSeq (Vc.aSet 15 (Vc.aCall W_law_tried (Vc.aCons (Vc.aV 11) (Vc.aCons (Vc.aV 12) (Vc.aCons (Vc.aV 6) (Vc.aCons (Vc.aV 13) Vc.aNil))))))
    (Vc.aSeq (Vc.aSet 16 (Vc.aCall (calm W_passed) (Vc.aCons (Vc.aV 3) (Vc.aCons (Vc.aV 12) (Vc.aCons (Vc.aV 6) (Vc.aCons (Vc.aV 13) Vc.aNil))))))
    (Vc.aIfS (Vc.aTOr (Vc.aT (Vc.aOp (Vc.gIsN false) (Vc.aV 15) (Vc.aC .none))) (Vc.aT (Vc.aOp (Vc.gEqD true) (Vc.aV 15) (Vc.aCall W_law_tried (Vc.aCons (Vc.aV 16) (Vc.aCons (Vc.aV 5) (Vc.aCons (Vc.aV 6) (Vc.aCons (Vc.aV 10) Vc.aNil))))))))
    (Vc.aRet (Vc.aC (.bool false)))
    Vc.aNext)))
    Vc.aNext)
    (Vc.aSet 3 (Vc.aV 11)))))))
    (Vc.aIfS (Vc.aTAnd (Vc.aT (Vc.aOp (Vc.gEqD true) (Vc.aV 5) (Vc.aV 6))) (Vc.aTAnd (Vc.aT (Vc.aOp Vc.gLt (Vc.aR Vc.gLen (Vc.aS 3)) (Vc.aC (.int 12)))) (Vc.aT (Vc.aOp Vc.gGe (Vc.aOp Vc.gMulX (Vc.aIx (Vc.aS 8) (Vc.aC (.int 0))) (Vc.aIx (Vc.aS 10) (Vc.aC (.int 1)))) (Vc.aOp Vc.gMulX (Vc.aIx (Vc.aS 10) (Vc.aC (.int 0))) (Vc.aIx (Vc.aS 8) (Vc.aC (.int 1))))))))
    (Vc.aRet (Vc.aC (.bool false)))
    Vc.aNext))))))))
    (Vc.aRet (Vc.aCall W_is_holding (Vc.aCons (Vc.aV 3) Vc.aNil))))))
def W_law : Prop := ∀ K, lawWS K 17 (A_law K)
section
variable {P : Program} {w : World} {K : Frag} {mg : Str → Option Value} {base : Heap} {cs : List (Addr × PyData)} {Φ : Stt → Prop}
theorem fn_is_whole {f : Addr} {fd : FuncData} (T : Tb mg cs) (U : Kb K mg) (O : Own K mg "is_whole" s_is_whole f fd ["thing"])
     : FnOk P w K mg base CX0 1 f fd ["thing"] (spW cs false W_is_whole) := by
  unfold W_is_whole
  exact fn_ok O.F sc_is_whole fun cdv A outer s0 H E hr => by
    have hS : (Stt.nul cs).cs = cs := rfl
    have nd := sc_is_whole.nd
    have hu := hu_of hr
    exact (Vc.q_one (Vc.s_ret (Vc.v_and (Vc.c_isi K Vc.ty_int T.z_isinstance T.z_int (by decide +kernel) (Vc.v 0)) (Vc.v_one (Vc.v_not (Vc.c_isi K Vc.ty_bool T.z_isinstance T.z_bool (by decide +kernel) (Vc.v 0)))))))
theorem fn_is_letters {f : Addr} {fd : FuncData} (T : Tb mg cs) (U : Kb K mg) (O : Own K mg "is_letters" s_is_letters f fd ["thing", "most"])
     : FnOk P w K mg base CX0 1 f fd ["thing", "most"] (spW cs false W_is_letters) := by
  unfold W_is_letters
  exact fn_ok O.F sc_is_letters fun cdv A outer s0 H E hr => by
    have hS : (Stt.nul cs).cs = cs := rfl
    have nd := sc_is_letters.nd
    have hu := hu_of hr
    exact (Vc.q_one (Vc.s_ret (Vc.v_and (Vc.c_isi K Vc.ty_str T.z_isinstance T.z_str (by decide +kernel) (Vc.v 0)) (Vc.v_and (Vc.v_chain op_le op_le (Vc.opd_I fun _ _ => .bl _) (Vc.opd_I fun _ _ => .bl _) Vc.c_int (Vc.c_ar (Vc.k_lenA K) Vc.ar_lenA T.z_len (by decide +kernel) (Vc.a_cons (Vc.v 0) Vc.a_nil)) (Vc.v 1)) (Vc.v_one (Vc.c_rd (Vc.k_all K) Vc.rd_all T.z_all (by decide +kernel) (Vc.s_n (Vc.n_lc (own := [("sign", 2)]) rfl nd (Vc.i_S (Vc.v 0)) (blkOk_by (own := [("sign", 2)]) (N := N_is_letters) (sc := defScope s_is_letters) (by decide +kernel)) (fun _ _ _ _ _ => (Vc.g_v (i := 2) nd rfl (Or.inl rfl))) (fun _ _ _ _ _ => Vc.ts_nil) (fun _ _ _ _ _ => (Vc.cmp op_in_str Vc.opd_inS (Vc.v 2) (Vc.globS T.c__LETTERS)))))))))))
theorem fn_is_rising {f : Addr} {fd : FuncData} (T : Tb mg cs) (U : Kb K mg) (O : Own K mg "is_rising" s_is_rising f fd ["things"])
     : FnOk P w K mg base CX0 1 f fd ["things"] (spW cs false W_is_rising) := by
  unfold W_is_rising
  exact fn_ok O.F sc_is_rising fun cdv A outer s0 H E hr => by
    have hS : (Stt.nul cs).cs = cs := rfl
    have nd := sc_is_rising.nd
    have hu := hu_of hr
    exact (Vc.q_one (Vc.s_ret (Vc.c_rd (Vc.k_all K) Vc.rd_all T.z_all (by decide +kernel) (Vc.s_n (Vc.n_lc (own := [("one", 1), ("other", 2)]) rfl nd (Vc.i_Z K T.z_zip (Vc.v 0) (Vc.w_n (Vc.n_slL K (Vc.vs 0) (Vc.o_some Vc.c_int) Vc.o_none))) (blkOk_by (own := [("one", 1), ("other", 2)]) (N := N_is_rising) (sc := defScope s_is_rising) (by decide +kernel)) (fun _ _ _ _ _ => (Vc.g_tup K rfl (Vc.gs_cons (Vc.g_v (i := 1) nd rfl (Or.inl rfl)) (Vc.gs_cons (Vc.g_v (i := 2) nd rfl (Or.inl rfl)) Vc.gs_nil)))) (fun _ _ _ _ _ => Vc.ts_nil) (fun _ _ _ _ _ => (Vc.cmp (k_lt K hr.units) Vc.opd_ltX (Vc.v 1) (Vc.v 2))))))))
theorem fn_is_name {f : Addr} {fd : FuncData} (T : Tb mg cs) (U : Kb K mg) (O : Own K mg "is_name" s_is_name f fd ["thing"])
    {f_is_letters : Addr} {fd_is_letters : FuncData} (O_is_letters : Own K mg "is_letters" s_is_letters f_is_letters fd_is_letters ["thing", "most"]) (G_is_letters : FnOk P w K mg base CX0 1 f_is_letters fd_is_letters ["thing", "most"] (spW cs false W_is_letters)) : FnOk P w K mg base CX0 2 f fd ["thing"] (spW cs false W_is_name) := by
  unfold W_is_name
  exact fn_ok O.F sc_is_name fun cdv A outer s0 H E hr => by
    have hS : (Stt.nul cs).cs = cs := rfl
    have nd := sc_is_name.nd
    have hu := hu_of hr
    exact (Vc.q_one (Vc.s_ret (Vc.c_call hS G_is_letters (hr.mono (by decide)) (by rfl) O_is_letters.g O_is_letters.F.kp O_is_letters.b pass0 (Vc.a_cons (Vc.v 0) (Vc.a_cons Vc.c_int Vc.a_nil)))))
theorem fn_is_fraction {f : Addr} {fd : FuncData} (T : Tb mg cs) (U : Kb K mg) (O : Own K mg "is_fraction" s_is_fraction f fd ["thing"])
    {f_is_whole : Addr} {fd_is_whole : FuncData} (O_is_whole : Own K mg "is_whole" s_is_whole f_is_whole fd_is_whole ["thing"]) (G_is_whole : FnOk P w K mg base CX0 1 f_is_whole fd_is_whole ["thing"] (spW cs false W_is_whole)) : FnOk P w K mg base CX0 2 f fd ["thing"] (spW cs false W_is_fraction) := by
  unfold W_is_fraction
  exact fn_ok O.F sc_is_fraction fun cdv A outer s0 H E hr => by
    have hS : (Stt.nul cs).cs = cs := rfl
    have nd := sc_is_fraction.nd
    have hu := hu_of hr
    exact (Vc.q_cons (Vc.s_if (Vc.PVW.t (Vc.w_or (Vc.t_not (Vc.t_val (Vc.c_isi K Vc.ty_tup T.z_isinstance T.z_tuple (by decide +kernel) (Vc.v 0)))) (Vc.w_or (Vc.t_cmp (k_ne K hr.units) Vc.opd_ne (Vc.c_rd (k_len K) Vc.rd_len T.z_len (by decide +kernel) (Vc.vs 0)) Vc.c_int) (Vc.w_or1 (Vc.t_not (Vc.t_val (Vc.c_rd (Vc.k_all K) Vc.rd_all T.z_all (by decide +kernel) (Vc.s_n (Vc.n_lc (own := [("part", 1)]) rfl nd (Vc.i_T K (Vc.v 0)) (blkOk_by (own := [("part", 1)]) (N := N_is_fraction) (sc := defScope s_is_fraction) (by decide +kernel)) (fun _ _ _ _ _ => (Vc.g_v (i := 1) nd rfl (Or.inl rfl))) (fun _ _ _ _ _ => Vc.ts_nil) (fun _ _ _ _ _ => (Vc.c_call hS G_is_whole (hr.mono (by decide)) (by rfl) O_is_whole.g O_is_whole.F.kp O_is_whole.b pass0 (Vc.a_cons (Vc.v 1) Vc.a_nil))))))))))))
      (Vc.q_one (Vc.s_ret Vc.c_bl)) Vc.q_nil)
      (Vc.q_cons (Vc.s_asg (Vc.v 0) (Vc.g_tup K rfl (Vc.gs_cons (Vc.g_v (i := 2) nd rfl (Or.inl rfl)) (Vc.gs_cons (Vc.g_v (i := 3) nd rfl (Or.inl rfl)) Vc.gs_nil))))
      (Vc.q_one (Vc.s_ret (Vc.v_and (Vc.v_chain op_le op_le (Vc.opd_I fun _ _ => .bl _) (Vc.opd_I fun _ _ => .bl _) Vc.c_int (Vc.v 2) (Vc.v 3)) (Vc.v_one (Vc.cmp (k_eq K hr.units) Vc.opd_eq (Vc.c_arM cr_gcd Vc.ar_gcd T.m_gcd (Vc.a_cons (Vc.v 2) (Vc.a_cons (Vc.v 3) Vc.a_nil))) Vc.c_int)))))))
theorem fn_lowest {f : Addr} {fd : FuncData} (T : Tb mg cs) (U : Kb K mg) (O : Own K mg "_lowest" s_lowest f fd ["n", "d"])
     : FnOk P w K mg base CX0 1 f fd ["n", "d"] (spW cs false W_lowest) := by
  unfold W_lowest
  exact fn_ok O.F sc_lowest fun cdv A outer s0 H E hr => by
    have hS : (Stt.nul cs).cs = cs := rfl
    have nd := sc_lowest.nd
    have hu := hu_of hr
    exact (Vc.q_cons (Vc.s_set (i := 2) nd rfl (Or.inl rfl) (Vc.c_arM cr_gcd Vc.ar_gcd T.m_gcd (Vc.a_cons (Vc.v 0) (Vc.a_cons (Vc.v 1) Vc.a_nil))))
      (Vc.q_one (Vc.s_ret (Vc.e_tup (Vc.a_cons (Vc.bin op_fdivW (Vc.opd_C fun _ _ => .int _) (Vc.v 0) (Vc.v 2)) (Vc.a_cons (Vc.bin op_fdivW (Vc.opd_C fun _ _ => .int _) (Vc.v 1) (Vc.v 2)) Vc.a_nil))))))
theorem fn_sum {f : Addr} {fd : FuncData} (T : Tb mg cs) (U : Kb K mg) (O : Own K mg "_sum" s_sum f fd ["one", "other"])
    {f_lowest : Addr} {fd_lowest : FuncData} (O_lowest : Own K mg "_lowest" s_lowest f_lowest fd_lowest ["n", "d"]) (G_lowest : FnOk P w K mg base CX0 1 f_lowest fd_lowest ["n", "d"] (spW cs false W_lowest)) : FnOk P w K mg base CX0 2 f fd ["one", "other"] (spW cs false W_sum) := by
  unfold W_sum
  exact fn_ok O.F sc_sum fun cdv A outer s0 H E hr => by
    have hS : (Stt.nul cs).cs = cs := rfl
    have nd := sc_sum.nd
    have hu := hu_of hr
    exact (Vc.q_one (Vc.s_ret (Vc.c_call hS G_lowest (hr.mono (by decide)) (by rfl) O_lowest.g O_lowest.F.kp O_lowest.b pass0 (Vc.a_cons (Vc.bin op_add (Vc.opd_I fun _ _ => .int _) (Vc.bin op_mulX (Vc.opd_C fun _ _ => .int _) (Vc.e_ix K (Vc.vs 0) Vc.c_int (fun _ _ => rfl)) (Vc.e_ix K (Vc.vs 1) Vc.c_int (fun _ _ => rfl))) (Vc.bin op_mulX (Vc.opd_C fun _ _ => .int _) (Vc.e_ix K (Vc.vs 1) Vc.c_int (fun _ _ => rfl)) (Vc.e_ix K (Vc.vs 0) Vc.c_int (fun _ _ => rfl)))) (Vc.a_cons (Vc.bin op_mulX (Vc.opd_C fun _ _ => .int _) (Vc.e_ix K (Vc.vs 0) Vc.c_int (fun _ _ => rfl)) (Vc.e_ix K (Vc.vs 1) Vc.c_int (fun _ _ => rfl))) Vc.a_nil)))))
theorem fn_rest {f : Addr} {fd : FuncData} (T : Tb mg cs) (U : Kb K mg) (O : Own K mg "_rest" s_rest f fd ["one", "other"])
    {f_lowest : Addr} {fd_lowest : FuncData} (O_lowest : Own K mg "_lowest" s_lowest f_lowest fd_lowest ["n", "d"]) (G_lowest : FnOk P w K mg base CX0 1 f_lowest fd_lowest ["n", "d"] (spW cs false W_lowest)) : FnOk P w K mg base CX0 2 f fd ["one", "other"] (spW cs false W_rest) := by
  unfold W_rest
  exact fn_ok O.F sc_rest fun cdv A outer s0 H E hr => by
    have hS : (Stt.nul cs).cs = cs := rfl
    have nd := sc_rest.nd
    have hu := hu_of hr
    exact (Vc.q_one (Vc.s_ret (Vc.c_call hS G_lowest (hr.mono (by decide)) (by rfl) O_lowest.g O_lowest.F.kp O_lowest.b pass0 (Vc.a_cons (Vc.bin op_sub (Vc.opd_I fun _ _ => .int _) (Vc.bin op_mulX (Vc.opd_C fun _ _ => .int _) (Vc.e_ix K (Vc.vs 0) Vc.c_int (fun _ _ => rfl)) (Vc.e_ix K (Vc.vs 1) Vc.c_int (fun _ _ => rfl))) (Vc.bin op_mulX (Vc.opd_C fun _ _ => .int _) (Vc.e_ix K (Vc.vs 1) Vc.c_int (fun _ _ => rfl)) (Vc.e_ix K (Vc.vs 0) Vc.c_int (fun _ _ => rfl)))) (Vc.a_cons (Vc.bin op_mulX (Vc.opd_C fun _ _ => .int _) (Vc.e_ix K (Vc.vs 0) Vc.c_int (fun _ _ => rfl)) (Vc.e_ix K (Vc.vs 1) Vc.c_int (fun _ _ => rfl))) Vc.a_nil)))))
theorem fn_is_part {f : Addr} {fd : FuncData} (T : Tb mg cs) (U : Kb K mg) (O : Own K mg "_is_part" s_is_part f fd ["thing"])
    {f_is_name : Addr} {fd_is_name : FuncData} (O_is_name : Own K mg "is_name" s_is_name f_is_name fd_is_name ["thing"]) (G_is_name : FnOk P w K mg base CX0 2 f_is_name fd_is_name ["thing"] (spW cs false W_is_name))
    {f_is_fraction : Addr} {fd_is_fraction : FuncData} (O_is_fraction : Own K mg "is_fraction" s_is_fraction f_is_fraction fd_is_fraction ["thing"]) (G_is_fraction : FnOk P w K mg base CX0 2 f_is_fraction fd_is_fraction ["thing"] (spW cs false W_is_fraction)) : FnOk P w K mg base CX0 3 f fd ["thing"] (spW cs false W_is_part) := by
  unfold W_is_part
  exact fn_ok O.F sc_is_part fun cdv A outer s0 H E hr => by
    have hS : (Stt.nul cs).cs = cs := rfl
    have nd := sc_is_part.nd
    have hu := hu_of hr
    exact (Vc.q_one (Vc.s_ret (Vc.v_and (Vc.c_isi K Vc.ty_tup T.z_isinstance T.z_tuple (by decide +kernel) (Vc.v 0)) (Vc.v_and (Vc.cmp (k_eq K hr.units) Vc.opd_eq (Vc.c_rd (k_len K) Vc.rd_len T.z_len (by decide +kernel) (Vc.vs 0)) Vc.c_int) (Vc.v_and (Vc.c_call hS G_is_name (hr.mono (by decide)) (by rfl) O_is_name.g O_is_name.F.kp O_is_name.b pass0 (Vc.a_cons (Vc.e_ix K (Vc.vs 0) Vc.c_int (fun _ _ => rfl)) Vc.a_nil)) (Vc.v_one (Vc.c_call hS G_is_fraction (hr.mono (by decide)) (by rfl) O_is_fraction.g O_is_fraction.F.kp O_is_fraction.b pass0 (Vc.a_cons (Vc.e_ix K (Vc.vs 0) Vc.c_int (fun _ _ => rfl)) Vc.a_nil))))))))
theorem fn_is_holding {f : Addr} {fd : FuncData} (T : Tb mg cs) (U : Kb K mg) (O : Own K mg "is_holding" s_is_holding f fd ["thing"])
    {f_is_part : Addr} {fd_is_part : FuncData} (O_is_part : Own K mg "_is_part" s_is_part f_is_part fd_is_part ["thing"]) (G_is_part : FnOk P w K mg base CX0 3 f_is_part fd_is_part ["thing"] (spW cs false W_is_part))
    {f_is_rising : Addr} {fd_is_rising : FuncData} (O_is_rising : Own K mg "is_rising" s_is_rising f_is_rising fd_is_rising ["things"]) (G_is_rising : FnOk P w K mg base CX0 1 f_is_rising fd_is_rising ["things"] (spW cs false W_is_rising))
    {f_sum : Addr} {fd_sum : FuncData} (O_sum : Own K mg "_sum" s_sum f_sum fd_sum ["one", "other"]) (G_sum : FnOk P w K mg base CX0 2 f_sum fd_sum ["one", "other"] (spW cs false W_sum)) : FnOk P w K mg base CX0 4 f fd ["thing"] (spW cs false W_is_holding) := by
  unfold W_is_holding
  exact fn_ok O.F sc_is_holding fun cdv A outer s0 H E hr => by
    have hS : (Stt.nul cs).cs = cs := rfl
    have nd := sc_is_holding.nd
    have hu := hu_of hr
    exact (Vc.q_cons (Vc.s_if (Vc.PVW.t (Vc.w_or (Vc.t_not (Vc.t_val (Vc.c_isi K Vc.ty_tup T.z_isinstance T.z_tuple (by decide +kernel) (Vc.v 0)))) (Vc.w_or1 (Vc.t_not (Vc.t_chain op_le op_le (Vc.opd_I fun _ _ => .bl _) (Vc.opd_I fun _ _ => .bl _) Vc.c_int (Vc.c_rd (k_len K) Vc.rd_len T.z_len (by decide +kernel) (Vc.vs 0)) (Vc.globI T.c__MOST_HOLDERS))))))
      (Vc.q_one (Vc.s_ret Vc.c_bl)) Vc.q_nil)
      (Vc.q_cons (Vc.s_if (Vc.PVW.t (Vc.w_or (Vc.t_not (Vc.t_val (Vc.c_rd (Vc.k_all K) Vc.rd_all T.z_all (by decide +kernel) (Vc.s_n (Vc.n_lc (own := [("part", 1)]) rfl nd (Vc.i_T K (Vc.v 0)) (blkOk_by (own := [("part", 1)]) (N := N_is_holding) (sc := defScope s_is_holding) (by decide +kernel)) (fun _ _ _ _ _ => (Vc.g_v (i := 1) nd rfl (Or.inl rfl))) (fun _ _ _ _ _ => Vc.ts_nil) (fun _ _ _ _ _ => (Vc.c_call hS G_is_part (hr.mono (by decide)) (by rfl) O_is_part.g O_is_part.F.kp O_is_part.b pass0 (Vc.a_cons (Vc.v 1) Vc.a_nil)))))))) (Vc.w_or1 (Vc.t_not (Vc.t_val (Vc.c_call hS G_is_rising (hr.mono (by decide)) (by rfl) O_is_rising.g O_is_rising.F.kp O_is_rising.b pass0 (Vc.a_cons (Vc.w_n (Vc.n_lc (own := [("name", 2), ("_", 3)]) rfl nd (Vc.i_T K (Vc.v 0)) (blkOk_by (own := [("name", 2), ("_", 3)]) (N := N_is_holding) (sc := defScope s_is_holding) (by decide +kernel)) (fun _ _ _ _ _ => (Vc.g_tup K rfl (Vc.gs_cons (Vc.g_v (i := 2) nd rfl (Or.inl rfl)) (Vc.gs_cons (Vc.g_v (i := 3) nd rfl (Or.inl rfl)) Vc.gs_nil)))) (fun _ _ _ _ _ => Vc.ts_nil) (fun _ _ _ _ _ => (Vc.v 2)))) Vc.a_nil)))))))
      (Vc.q_one (Vc.s_ret Vc.c_bl)) Vc.q_nil)
      (Vc.q_cons (Vc.s_set (i := 4) nd rfl (Or.inl rfl) (Vc.e_tup (Vc.a_cons Vc.c_int (Vc.a_cons Vc.c_int Vc.a_nil))))
      (Vc.q_cons (Vc.s_for PassesOwn.never rfl (Vc.i_T K (Vc.v 0)) (Vc.g_tup K rfl (Vc.gs_cons (Vc.g_v (i := 3) nd rfl (Or.inl rfl)) (Vc.gs_cons (Vc.g_v (i := 5) nd rfl (Or.inl rfl)) Vc.gs_nil)))
      (Vc.q_one (Vc.s_set (i := 4) nd rfl (Or.inl rfl) (Vc.c_call hS G_sum (hr.mono (by decide)) (by rfl) O_sum.g O_sum.F.kp O_sum.b pass0 (Vc.a_cons (Vc.v 4) (Vc.a_cons (Vc.v 5) Vc.a_nil))))))
      (Vc.q_one (Vc.s_ret (Vc.cmp (k_eq K hr.units) Vc.opd_eq (Vc.v 4) (Vc.e_tup (Vc.a_cons Vc.c_int (Vc.a_cons Vc.c_int Vc.a_nil))))))))))
theorem fn_sole {f : Addr} {fd : FuncData} (T : Tb mg cs) (U : Kb K mg) (O : Own K mg "sole" s_sole f fd ["name"])
     : FnOk P w K mg base CX0 1 f fd ["name"] (spW cs false W_sole) := by
  unfold W_sole
  exact fn_ok O.F sc_sole fun cdv A outer s0 H E hr => by
    have hS : (Stt.nul cs).cs = cs := rfl
    have nd := sc_sole.nd
    have hu := hu_of hr
    exact (Vc.q_one (Vc.s_ret (Vc.e_tup (Vc.a_cons (Vc.e_tup (Vc.a_cons (Vc.v 0) (Vc.a_cons (Vc.e_tup (Vc.a_cons Vc.c_int (Vc.a_cons Vc.c_int Vc.a_nil))) Vc.a_nil))) Vc.a_nil))))
theorem fn_held {f : Addr} {fd : FuncData} (T : Tb mg cs) (U : Kb K mg) (O : Own K mg "held" s_held f fd ["holding", "name"])
     : FnOk P w K mg base CX0 1 f fd ["holding", "name"] (spW cs false W_held) := by
  unfold W_held
  exact fn_ok O.F sc_held fun cdv A outer s0 H E hr => by
    have hS : (Stt.nul cs).cs = cs := rfl
    have nd := sc_held.nd
    have hu := hu_of hr
    exact (Vc.q_cons (Vc.s_for PassesOwn.never rfl (Vc.i_T K (Vc.v 0)) (Vc.g_tup K rfl (Vc.gs_cons (Vc.g_v (i := 2) nd rfl (Or.inl rfl)) (Vc.gs_cons (Vc.g_v (i := 3) nd rfl (Or.inl rfl)) Vc.gs_nil)))
      (Vc.q_one (Vc.s_if (Vc.t_cmp (k_eq K hr.units) Vc.opd_eq (Vc.v 2) (Vc.v 1))
      (Vc.q_one (Vc.s_ret (Vc.v 3))) Vc.q_nil)))
      (Vc.q_one (Vc.s_ret Vc.c_non)))
theorem fn_passed {f : Addr} {fd : FuncData} (T : Tb mg cs) (U : Kb K mg) (O : Own K mg "passed" s_passed f fd ["holding", "giver", "taker", "part"])
    {f_is_name : Addr} {fd_is_name : FuncData} (O_is_name : Own K mg "is_name" s_is_name f_is_name fd_is_name ["thing"]) (G_is_name : FnOk P w K mg base CX0 2 f_is_name fd_is_name ["thing"] (spW cs false W_is_name))
    {f_is_fraction : Addr} {fd_is_fraction : FuncData} (O_is_fraction : Own K mg "is_fraction" s_is_fraction f_is_fraction fd_is_fraction ["thing"]) (G_is_fraction : FnOk P w K mg base CX0 2 f_is_fraction fd_is_fraction ["thing"] (spW cs false W_is_fraction))
    {f_rest : Addr} {fd_rest : FuncData} (O_rest : Own K mg "_rest" s_rest f_rest fd_rest ["one", "other"]) (G_rest : FnOk P w K mg base CX0 2 f_rest fd_rest ["one", "other"] (spW cs false W_rest))
    {f_sum : Addr} {fd_sum : FuncData} (O_sum : Own K mg "_sum" s_sum f_sum fd_sum ["one", "other"]) (G_sum : FnOk P w K mg base CX0 2 f_sum fd_sum ["one", "other"] (spW cs false W_sum)) : FnOk P w K mg base (L2.CX P w) 3 f fd ["holding", "giver", "taker", "part"] (spX cs false W_passed) := by
  unfold W_passed
  exact fn_okX O.F sc_passed fun cdv A outer s0 H E hr => by
    have hS : (Stt.nul cs).cs = cs := rfl
    have nd := sc_passed.nd
    have hu := hu_of hr
    exact ⟨_, (x_cons (c_t := 0) (c_u := 0) (x_if (c_tt := 0) (c_t := 0) (c_u := 0) (Vc.PVW.t (Vc.w_or (Vc.t_not (Vc.t_val (Vc.c_call hS G_is_name (hr.mono (by decide)) (by rfl) O_is_name.g O_is_name.F.kp O_is_name.b pass0 (Vc.a_cons (Vc.v 1) Vc.a_nil)))) (Vc.w_or (Vc.t_not (Vc.t_val (Vc.c_call hS G_is_name (hr.mono (by decide)) (by rfl) O_is_name.g O_is_name.F.kp O_is_name.b pass0 (Vc.a_cons (Vc.v 2) Vc.a_nil)))) (Vc.w_or (Vc.t_cmp (k_eq K hr.units) Vc.opd_eq (Vc.v 1) (Vc.v 2)) (Vc.w_or1 (Vc.t_not (Vc.t_val (Vc.c_call hS G_is_fraction (hr.mono (by decide)) (by rfl) O_is_fraction.g O_is_fraction.F.kp O_is_fraction.b pass0 (Vc.a_cons (Vc.v 3) Vc.a_nil)))))))))
      (x_one (x_raiseK U.e_NoShare rfl (by rfl))) x_nil)
      (x_cons (c_t := 0) (c_u := 0) (x_of (s_setDc (i := 4) (own := [("name", 5), ("share", 6)]) nd rfl rfl rfl (sw_trueD rfl rfl rfl (by decide +kernel)) (Vc.i_T K (Vc.v 0)) (blkOk_by (own := [("name", 5), ("share", 6)]) (N := N_passed) (sc := defScope s_passed) (by decide +kernel)) (fun _ _ _ _ _ => (Vc.g_tup K rfl (Vc.gs_cons (Vc.g_v (i := 5) nd rfl (Or.inl rfl)) (Vc.gs_cons (Vc.g_v (i := 6) nd rfl (Or.inl rfl)) Vc.gs_nil)))) (fun _ _ _ _ _ => Vc.ts_nil) (fun _ _ _ _ _ => (Vc.v 5)) (fun _ _ _ _ _ => (Vc.v 6))))
      (x_cons (c_t := 0) (c_u := 0) (x_of (Vc.s_set (i := 7) nd rfl (Or.inl rfl) (Vc.c_call hS G_rest (hr.mono (by decide)) (by rfl) O_rest.g O_rest.F.kp O_rest.b pass0 (Vc.a_cons (Vc.e_getM 4 (Nat.lt_trans (Nat.add_lt_add_left (by decide : 1 < 64) _) hr.units) (Vc.v 1) (Vc.e_tup (Vc.a_cons Vc.c_int (Vc.a_cons Vc.c_int Vc.a_nil)))) (Vc.a_cons (Vc.v 3) Vc.a_nil)))))
      (x_cons (c_t := 0) (c_u := 0) (x_if (c_tt := 0) (c_t := 0) (c_u := 0) (Vc.t_cmp op_lt (Vc.opd_I fun _ _ => .bl _) (Vc.e_ix K (Vc.vs 7) Vc.c_int (fun _ _ => rfl)) Vc.c_int)
      (x_one (x_raiseK U.e_NoShare rfl (by rfl))) x_nil)
      (x_cons (c_t := 0) (c_u := 0) (x_of (Vc.s_putM 4 (Nat.lt_trans (Nat.add_lt_add_left (by decide : 1 < 64) _) hr.units) (Vc.v 7) (Vc.v 1)))
      (x_cons (c_t := 0) (c_u := 0) (x_of (Vc.s_putM 4 (Nat.lt_trans (Nat.add_lt_add_left (by decide : 1 < 64) _) hr.units) (Vc.c_call hS G_sum (hr.mono (by decide)) (by rfl) O_sum.g O_sum.F.kp O_sum.b pass0 (Vc.a_cons (Vc.e_getM 4 (Nat.lt_trans (Nat.add_lt_add_left (by decide : 1 < 64) _) hr.units) (Vc.v 2) (Vc.e_tup (Vc.a_cons Vc.c_int (Vc.a_cons Vc.c_int Vc.a_nil)))) (Vc.a_cons (Vc.v 3) Vc.a_nil))) (Vc.v 2)))
      (x_cons (c_t := 0) (c_u := 0) (x_of (Vc.s_if (Vc.t_cmp (k_eq K hr.units) Vc.opd_eq (Vc.e_ix K (Vc.vs 7) Vc.c_int (fun _ _ => rfl)) Vc.c_int)
      (Vc.q_one (s_delM 4 (Vc.v 1))) Vc.q_nil))
      (x_cons (c_t := 0) (c_u := 0) (x_if (c_tt := 0) (c_t := 0) (c_u := 0) (Vc.t_cmp op_gt (Vc.opd_I fun _ _ => .bl _) (e_lenM 4 T.z_len) (Vc.globI T.c__MOST_HOLDERS))
      (x_one (x_raiseK U.e_NoShare rfl (by rfl))) x_nil)
      (x_one (x_of (Vc.s_ret (Vc.c_rdT (k_tuple K) Vc.rd_tuple T.z_tuple (by decide +kernel) (Vc.s_n (n_sortIt K 4 rfl hr.units T.z_sorted))))))))))))))⟩
theorem fn_law_pick (hcs : ∀ S, Φ S → S.cs = cs) {f : Addr} {fd : FuncData} (T : Tb mg cs) (U : Kb K mg) (O : Own K mg "_law_pick" s_law_pick f fd ["state", "some"])
    {f_law_take : Addr} {fd_law_take : FuncData} (O_law_take : Own K mg "_law_take" s_law_take f_law_take fd_law_take ["state", "many"]) (G_law_take : FnOk P w K mg base CX0 2 f_law_take fd_law_take ["state", "many"] (spWS Φ (1) false W_law_take)) : FnOk P w K mg base CX0 3 f fd ["state", "some"] (spWS Φ (2 ^ 10) false W_law_pick) := by
  unfold W_law_pick
  exact fn_okS O.F sc_law_pick rfl fun S hΦ cdv A outer s0 H E hr => by
    have hS := hcs S hΦ
    have nd := sc_law_pick.nd
    have hu := hu_of hr
    exact (Vc.q_one (Vc.s_ret (Vc.e_ixA K (Vc.v 1) (Vc.c_callS 0 hΦ G_law_take (hr.mono (by decide)) (by rfl) O_law_take.g O_law_take.F.kp O_law_take.b pass0 (Vc.a_cons (Vc.c_ar (Vc.k_lenA K) Vc.ar_lenA T.z_len (by decide +kernel) (Vc.a_cons (Vc.v 1) Vc.a_nil)) Vc.a_nil)) (fun _ _ => rfl))))
theorem fn_law_names (hcs : ∀ S, Φ S → S.cs = cs) {f : Addr} {fd : FuncData} (T : Tb mg cs) (U : Kb K mg) (O : Own K mg "_law_names" s_law_names f fd ["state", "many"])
    {f_law_pick : Addr} {fd_law_pick : FuncData} (O_law_pick : Own K mg "_law_pick" s_law_pick f_law_pick fd_law_pick ["state", "some"]) (G_law_pick : FnOk P w K mg base CX0 3 f_law_pick fd_law_pick ["state", "some"] (spWS Φ (2 ^ 10) false W_law_pick))
    {f_law_take : Addr} {fd_law_take : FuncData} (O_law_take : Own K mg "_law_take" s_law_take f_law_take fd_law_take ["state", "many"]) (G_law_take : FnOk P w K mg base CX0 2 f_law_take fd_law_take ["state", "many"] (spWS Φ (1) false W_law_take)) : FnOk P w K mg base CX0 4 f fd ["state", "many"] (spWS Φ (2 ^ 68) true W_law_names) := by
  unfold W_law_names
  exact fn_okS O.F sc_law_names rfl fun S hΦ cdv A outer s0 H E hr => by
    have hS := hcs S hΦ
    have nd := sc_law_names.nd
    have hu := hu_of hr
    exact (Vc.q_cons (Vc.s_set (i := 2) nd rfl (Or.inr rfl) Vc.c_str)
      (Vc.q_cons (Vc.s_set (i := 3) nd rfl (Or.inl rfl) (Vc.w_n (Vc.n_lst (Vc.a_cons Vc.c_str (Vc.a_cons Vc.c_str (Vc.a_cons Vc.c_str (Vc.a_cons Vc.c_str (Vc.a_cons Vc.c_str (Vc.a_cons Vc.c_str (Vc.a_cons Vc.c_str (Vc.a_cons Vc.c_str (Vc.a_cons Vc.c_str (Vc.a_cons Vc.c_str (Vc.a_cons Vc.c_str (Vc.a_cons Vc.c_str Vc.a_nil)))))))))))))))
      (Vc.q_cons (Vc.s_setN (i := 4) nd rfl (Or.inr rfl) (Vc.n_lst Vc.a_nil))
      (Vc.q_cons (s_forC PassesOwn.never rfl (Vc.i_R1 T.z_range (Vc.v 1)) (Vc.g_v (i := 5) nd rfl (Or.inl rfl))
      (Vc.q_cons (Vc.s_set (i := 6) nd rfl (Or.inr rfl) (Vc.c_callS 0 hΦ G_law_pick (hr.mono (by decide)) (by rfl) O_law_pick.g O_law_pick.F.kp O_law_pick.b pass0 (Vc.a_cons (Vc.v 3) Vc.a_nil)))
      (Vc.q_cons (Vc.s_if (Vc.t_cmp op_gt (Vc.opd_I fun _ _ => .bl _) (Vc.c_callS 0 hΦ G_law_take (hr.mono (by decide)) (by rfl) O_law_take.g O_law_take.F.kp O_law_take.b pass0 (Vc.a_cons Vc.c_int Vc.a_nil)) Vc.c_int)
      (Vc.q_one (Vc.s_set (i := 6) nd rfl (Or.inr rfl) (Vc.e_join K Vc.c_str (Vc.s_n (Vc.n_lc (own := [("sign", 7)]) rfl nd (Vc.i_R1 T.z_range (Vc.bin op_add (Vc.opd_I fun _ _ => .int _) Vc.c_int (Vc.c_callS 0 hΦ G_law_take (hr.mono (by decide)) (by rfl) O_law_take.g O_law_take.F.kp O_law_take.b pass0 (Vc.a_cons Vc.c_int Vc.a_nil)))) (blkOk_by (own := [("sign", 7)]) (N := N_law_names) (sc := defScope s_law_names) (by decide +kernel)) (fun _ _ _ _ _ => (Vc.g_v (i := 7) nd rfl (Or.inl rfl))) (fun _ _ _ _ _ => Vc.ts_nil) (fun _ _ _ _ _ => (Vc.c_callS 0 hΦ G_law_pick (hr.mono (by decide)) (by rfl) O_law_pick.g O_law_pick.F.kp O_law_pick.b pass0 (Vc.a_cons (Vc.v 2) Vc.a_nil)))))))) Vc.q_nil)
      (Vc.q_cons (Vc.s_set (i := 8) nd rfl (Or.inl rfl) (Vc.w_n (Vc.n_cat (Vc.s_n (Vc.n_cat (Vc.s_n (Vc.n_lst (Vc.a_cons (Vc.v 6) Vc.a_nil))) (Vc.s_n (Vc.n_lc (own := [("letter", 9)]) rfl nd (Vc.i_S (Vc.v 2)) (blkOk_by (own := [("letter", 9)]) (N := N_law_names) (sc := defScope s_law_names) (by decide +kernel)) (fun _ _ _ _ _ => (Vc.g_v (i := 9) nd rfl (Or.inl rfl))) (fun _ _ _ _ _ => Vc.ts_nil) (fun _ _ _ _ _ => (Vc.bin op_add_str Vc.opd_addS (Vc.e_slS (Vc.v 6) Vc.o_none (Vc.o_some Vc.c_int)) (Vc.v 9))))))) (Vc.s_n (Vc.n_lc (own := [("letter", 9)]) rfl nd (Vc.i_S (Vc.v 2)) (blkOk_by (own := [("letter", 9)]) (N := N_law_names) (sc := defScope s_law_names) (by decide +kernel)) (fun _ _ _ _ _ => (Vc.g_v (i := 9) nd rfl (Or.inl rfl))) (fun _ _ _ _ _ => Vc.ts_nil) (fun _ _ _ _ _ => (Vc.bin op_add_str Vc.opd_addS (Vc.bin op_add_str Vc.opd_addS Vc.c_str (Vc.e_slS (Vc.v 6) Vc.o_none (Vc.o_some Vc.c_int))) (Vc.v 9))))))))
      (Vc.q_one (Vc.s_app K 4 (Vc.e_ix K (Vc.s_n (Vc.n_lc (own := [("one", 10)]) rfl nd (Vc.i_L K (Vc.v 8)) (blkOk_by (own := [("one", 10)]) (N := N_law_names) (sc := defScope s_law_names) (by decide +kernel)) (fun _ _ _ _ _ => (Vc.g_v (i := 10) nd rfl (Or.inl rfl))) (fun _ _ _ _ _ => (Vc.ts_one (Vc.t_cmpS (k_notIn K hr.units) Vc.ind_notIn (Vc.v 10) (Vc.vs 4)))) (fun _ _ _ _ _ => (Vc.v 10)))) Vc.c_int (fun _ _ => rfl))))))))
      (Vc.q_one (Vc.s_retB 4))))))
theorem fn_law_shared {f : Addr} {fd : FuncData} (T : Tb mg cs) (U : Kb K mg) (O : Own K mg "_law_shared" s_law_shared f fd ["one", "other"])
     : FnOk P w K mg base CX0 1 f fd ["one", "other"] (spW cs false W_law_shared) := by
  unfold W_law_shared
  exact fn_ok O.F sc_law_shared fun cdv A outer s0 H E hr => by
    have hS : (Stt.nul cs).cs = cs := rfl
    have nd := sc_law_shared.nd
    have hu := hu_of hr
    exact (Vc.q_cons (Vc.s_while PassesOwn.never (Vc.t_cmp (k_ne K hr.units) Vc.opd_ne (Vc.v 1) Vc.c_int)
      (Vc.q_one (s_par (i := 0) (j := 1) (by rfl) nd rfl rfl (by decide) rfl rfl (Vc.a_cons (Vc.v 1) (Vc.a_cons (Vc.bin op_modN (Vc.opd_C fun _ _ => .int _) (Vc.v 0) (Vc.v 1)) Vc.a_nil)) (by rfl))))
      (Vc.q_one (Vc.s_ret (Vc.v 0))))
theorem fn_law_lowest {f : Addr} {fd : FuncData} (T : Tb mg cs) (U : Kb K mg) (O : Own K mg "_law_lowest" s_law_lowest f fd ["upper", "below"])
    {f_law_shared : Addr} {fd_law_shared : FuncData} (O_law_shared : Own K mg "_law_shared" s_law_shared f_law_shared fd_law_shared ["one", "other"]) (G_law_shared : FnOk P w K mg base CX0 1 f_law_shared fd_law_shared ["one", "other"] (spW cs false W_law_shared)) : FnOk P w K mg base CX0 2 f fd ["upper", "below"] (spW cs false W_law_lowest) := by
  unfold W_law_lowest
  exact fn_ok O.F sc_law_lowest fun cdv A outer s0 H E hr => by
    have hS : (Stt.nul cs).cs = cs := rfl
    have nd := sc_law_lowest.nd
    have hu := hu_of hr
    exact (Vc.q_cons (Vc.s_set (i := 2) nd rfl (Or.inl rfl) (Vc.c_call hS G_law_shared (hr.mono (by decide)) (by rfl) O_law_shared.g O_law_shared.F.kp O_law_shared.b pass0 (Vc.a_cons (Vc.v 0) (Vc.a_cons (Vc.v 1) Vc.a_nil))))
      (Vc.q_one (Vc.s_ret (Vc.e_tup (Vc.a_cons (Vc.bin op_fdivW (Vc.opd_C fun _ _ => .int _) (Vc.v 0) (Vc.v 2)) (Vc.a_cons (Vc.bin op_fdivW (Vc.opd_C fun _ _ => .int _) (Vc.v 1) (Vc.v 2)) Vc.a_nil))))))
theorem fn_law_fraction (hcs : ∀ S, Φ S → S.cs = cs) {f : Addr} {fd : FuncData} (T : Tb mg cs) (U : Kb K mg) (O : Own K mg "_law_fraction" s_law_fraction f fd ["state"])
    {f_law_take : Addr} {fd_law_take : FuncData} (O_law_take : Own K mg "_law_take" s_law_take f_law_take fd_law_take ["state", "many"]) (G_law_take : FnOk P w K mg base CX0 2 f_law_take fd_law_take ["state", "many"] (spWS Φ (1) false W_law_take))
    {f_law_lowest : Addr} {fd_law_lowest : FuncData} (O_law_lowest : Own K mg "_law_lowest" s_law_lowest f_law_lowest fd_law_lowest ["upper", "below"]) (G_law_lowest : FnOk P w K mg base CX0 2 f_law_lowest fd_law_lowest ["upper", "below"] (spW cs false W_law_lowest)) : FnOk P w K mg base CX0 3 f fd ["state"] (spWS Φ (2 ^ 10) false W_law_fraction) := by
  unfold W_law_fraction
  exact fn_okS O.F sc_law_fraction rfl fun S hΦ cdv A outer s0 H E hr => by
    have hS := hcs S hΦ
    have nd := sc_law_fraction.nd
    have hu := hu_of hr
    exact (Vc.q_cons (Vc.s_set (i := 1) nd rfl (Or.inl rfl) (Vc.bin op_add (Vc.opd_I fun _ _ => .int _) Vc.c_int (Vc.c_callS 0 hΦ G_law_take (hr.mono (by decide)) (by rfl) O_law_take.g O_law_take.F.kp O_law_take.b pass0 (Vc.a_cons (Vc.e_ix K (Vc.s_n (Vc.n_lst (Vc.a_cons Vc.c_int (Vc.a_cons Vc.c_int Vc.a_nil)))) (Vc.c_callS 0 hΦ G_law_take (hr.mono (by decide)) (by rfl) O_law_take.g O_law_take.F.kp O_law_take.b pass0 (Vc.a_cons Vc.c_int Vc.a_nil)) (fun _ _ => rfl)) Vc.a_nil))))
      (Vc.q_one (Vc.s_ret (Vc.c_call hS G_law_lowest (hr.mono (by decide)) (by rfl) O_law_lowest.g O_law_lowest.F.kp O_law_lowest.b pass0 (Vc.a_cons (Vc.bin op_add (Vc.opd_I fun _ _ => .int _) Vc.c_int (Vc.c_callS 0 hΦ G_law_take (hr.mono (by decide)) (by rfl) O_law_take.g O_law_take.F.kp O_law_take.b pass0 (Vc.a_cons (Vc.v 1) Vc.a_nil))) (Vc.a_cons (Vc.v 1) Vc.a_nil))))))
theorem fn_law_tried {f : Addr} {fd : FuncData} (T : Tb mg cs) (U : Kb K mg) (O : Own K mg "_law_tried" s_law_tried f fd ["rows", "first", "second", "part"])
    {f_passed : Addr} {fd_passed : FuncData} (O_passed : Own K mg "passed" s_passed f_passed fd_passed ["holding", "giver", "taker", "part"]) (G_passed : FnOk P w K mg base (L2.CX P w) 3 f_passed fd_passed ["holding", "giver", "taker", "part"] (spX cs false W_passed)) : FnOk P w K mg base CX0 4 f fd ["rows", "first", "second", "part"] (spW cs false W_law_tried) := by
  unfold W_law_tried
  exact fn_ok O.F sc_law_tried fun cdv A outer s0 H E hr => by
    have hS : (Stt.nul cs).cs = cs := rfl
    have nd := sc_law_tried.nd
    have hu := hu_of hr
    exact (Vc.q_cons (c_t := 0) (c_u := 0) (Vc.s_set (i := 4) nd rfl (Or.inl rfl) Vc.c_non)
      (Vc.q_cons (c_t := 0) (c_u := 0) (s_try K (X := (cxOf CX0 P w K mg base N_law_tried "_law_tried" (defScope s_law_tried) f cdv A outer s0 H E).nox) (x := "passed") (y := "found") (xe := "NoShare") (i := 4) (sub := subL [(eNoShare, true)]) rfl hS G_passed (hr.mono (by decide)) O_passed.g O_passed.F.kp O_passed.b rfl rfl ⟨rfl, by decide, .inl U.e_NoShare.g⟩ (sub_l U.m_NoShare) nd rfl (fun _ _ => (Vc.a_cons (Vc.v 0) (Vc.a_cons (Vc.v 1) (Vc.a_cons (Vc.v 2) (Vc.a_cons (Vc.v 3) Vc.a_nil))))) (fun _ _ => by rfl) (fun _ _ => (Or.inl rfl)) (fun _ _ => by rfl) (fun _ _ => .inl rfl) (fun _ _ _ => (Vc.q_one (Vc.s_set (i := 4) nd rfl (Or.inl rfl) Vc.c_non))))
      (Vc.q_one (Vc.s_ret (Vc.v 4)))))
theorem fn_law_others_stay {f : Addr} {fd : FuncData} (T : Tb mg cs) (U : Kb K mg) (O : Own K mg "_law_others_stay" s_law_others_stay f fd ["rows", "found", "names"])
     : FnOk P w K mg base CX0 1 f fd ["rows", "found", "names"] (spW cs false W_law_others_stay) := by
  unfold W_law_others_stay
  exact fn_ok O.F sc_law_others_stay fun cdv A outer s0 H E hr => by
    have hS : (Stt.nul cs).cs = cs := rfl
    have nd := sc_law_others_stay.nd
    have hu := hu_of hr
    exact (Vc.q_cons (Vc.s_lcS (i := 3) (own := [("row", 4)]) rfl nd rfl rfl (sw_true rfl rfl rfl (by decide +kernel)) (Vc.i_T K (Vc.v 0)) (blkOk_by (own := [("row", 4)]) (N := N_law_others_stay) (sc := defScope s_law_others_stay) (by decide +kernel)) (fun _ _ _ _ _ => (Vc.g_v (i := 4) nd rfl (Or.inl rfl))) (fun _ _ _ _ _ => (Vc.ts_one (Vc.t_cmpS (k_notIn K hr.units) Vc.ind_notIn (Vc.e_ix K (Vc.vs 4) Vc.c_int (fun _ _ => rfl)) (Vc.vs 2)))) (fun _ _ _ _ _ => (Vc.v 4)))
      (Vc.q_one (Vc.s_ret (Vc.cmp (k_eq K hr.units) Vc.opd_eq (Vc.v 3) (Vc.w_n (Vc.n_lc (own := [("row", 4)]) rfl nd (Vc.i_T K (Vc.v 1)) (blkOk_by (own := [("row", 4)]) (N := N_law_others_stay) (sc := defScope s_law_others_stay) (by decide +kernel)) (fun _ _ _ _ _ => (Vc.g_v (i := 4) nd rfl (Or.inl rfl))) (fun _ _ _ _ _ => (Vc.ts_one (Vc.t_cmpS (k_notIn K hr.units) Vc.ind_notIn (Vc.e_ix K (Vc.vs 4) Vc.c_int (fun _ _ => rfl)) (Vc.vs 2)))) (fun _ _ _ _ _ => (Vc.v 4))))))))
theorem fn_law_halves {f : Addr} {fd : FuncData} (T : Tb mg cs) (U : Kb K mg) (O : Own K mg "_law_halves" s_law_halves f fd ["rows", "first", "second", "part"])
    {f_law_lowest : Addr} {fd_law_lowest : FuncData} (O_law_lowest : Own K mg "_law_lowest" s_law_lowest f_law_lowest fd_law_lowest ["upper", "below"]) (G_law_lowest : FnOk P w K mg base CX0 2 f_law_lowest fd_law_lowest ["upper", "below"] (spW cs false W_law_lowest))
    {f_law_tried : Addr} {fd_law_tried : FuncData} (O_law_tried : Own K mg "_law_tried" s_law_tried f_law_tried fd_law_tried ["rows", "first", "second", "part"]) (G_law_tried : FnOk P w K mg base CX0 4 f_law_tried fd_law_tried ["rows", "first", "second", "part"] (spW cs false W_law_tried)) : FnOk P w K mg base CX0 5 f fd ["rows", "first", "second", "part"] (spW cs false W_law_halves) := by
  unfold W_law_halves
  exact fn_ok O.F sc_law_halves fun cdv A outer s0 H E hr => by
    have hS : (Stt.nul cs).cs = cs := rfl
    have nd := sc_law_halves.nd
    have hu := hu_of hr
    exact (Vc.q_cons (Vc.s_set (i := 4) nd rfl (Or.inl rfl) (Vc.c_call hS G_law_lowest (hr.mono (by decide)) (by rfl) O_law_lowest.g O_law_lowest.F.kp O_law_lowest.b pass0 (Vc.a_cons (Vc.e_ix K (Vc.vs 3) Vc.c_int (fun _ _ => rfl)) (Vc.a_cons (Vc.bin op_mulX (Vc.opd_C fun _ _ => .int _) (Vc.e_ix K (Vc.vs 3) Vc.c_int (fun _ _ => rfl)) Vc.c_int) Vc.a_nil))))
      (Vc.q_cons (Vc.s_set (i := 5) nd rfl (Or.inl rfl) (Vc.c_call hS G_law_tried (hr.mono (by decide)) (by rfl) O_law_tried.g O_law_tried.F.kp O_law_tried.b pass0 (Vc.a_cons (Vc.v 0) (Vc.a_cons (Vc.v 1) (Vc.a_cons (Vc.v 2) (Vc.a_cons (Vc.v 4) Vc.a_nil))))))
      (Vc.q_cons (Vc.s_if (Vc.PVW.t (Vc.w_and (Vc.t_cmp op_isN Vc.opd_isN (Vc.v 5) Vc.c_non) (Vc.w_and1 (Vc.t_cmp (k_eq K hr.units) Vc.opd_eq (Vc.c_rd (k_len K) Vc.rd_len T.z_len (by decide +kernel) (Vc.vs 0)) Vc.c_int))))
      (Vc.q_one (Vc.s_ret Vc.c_bl)) Vc.q_nil)
      (Vc.q_cons (Vc.s_if (Vc.t_cmp op_isN Vc.opd_isN (Vc.v 5) Vc.c_non)
      (Vc.q_one (Vc.s_ret Vc.c_bl)) Vc.q_nil)
      (Vc.q_one (Vc.s_ret (Vc.cmp (Vc.k_eqD K hr.units) Vc.opd_eqD (Vc.c_call hS G_law_tried (hr.mono (by decide)) (by rfl) O_law_tried.g O_law_tried.F.kp O_law_tried.b pass0 (Vc.a_cons (Vc.v 5) (Vc.a_cons (Vc.v 1) (Vc.a_cons (Vc.v 2) (Vc.a_cons (Vc.v 4) Vc.a_nil))))) (Vc.c_call hS G_law_tried (hr.mono (by decide)) (by rfl) O_law_tried.g O_law_tried.F.kp O_law_tried.b pass0 (Vc.a_cons (Vc.v 0) (Vc.a_cons (Vc.v 1) (Vc.a_cons (Vc.v 2) (Vc.a_cons (Vc.v 3) Vc.a_nil))))))))))))
theorem fn_law_step_right (hcs : ∀ S, Φ S → S.cs = cs) {f : Addr} {fd : FuncData} (T : Tb mg cs) (U : Kb K mg) (O : Own K mg "_law_step_right" s_law_step_right f fd ["state", "rows", "names", "found", "deal"])
    {f_is_holding : Addr} {fd_is_holding : FuncData} (O_is_holding : Own K mg "is_holding" s_is_holding f_is_holding fd_is_holding ["thing"]) (G_is_holding : FnOk P w K mg base CX0 4 f_is_holding fd_is_holding ["thing"] (spW cs false W_is_holding))
    {f_law_others_stay : Addr} {fd_law_others_stay : FuncData} (O_law_others_stay : Own K mg "_law_others_stay" s_law_others_stay f_law_others_stay fd_law_others_stay ["rows", "found", "names"]) (G_law_others_stay : FnOk P w K mg base CX0 1 f_law_others_stay fd_law_others_stay ["rows", "found", "names"] (spW cs false W_law_others_stay))
    {f_passed : Addr} {fd_passed : FuncData} (O_passed : Own K mg "passed" s_passed f_passed fd_passed ["holding", "giver", "taker", "part"]) (G_passed : FnOk P w K mg base (L2.CX P w) 3 f_passed fd_passed ["holding", "giver", "taker", "part"] (spX cs false W_passed))
    {f_law_halves : Addr} {fd_law_halves : FuncData} (O_law_halves : Own K mg "_law_halves" s_law_halves f_law_halves fd_law_halves ["rows", "first", "second", "part"]) (G_law_halves : FnOk P w K mg base CX0 5 f_law_halves fd_law_halves ["rows", "first", "second", "part"] (spW cs false W_law_halves))
    {f_held : Addr} {fd_held : FuncData} (O_held : Own K mg "held" s_held f_held fd_held ["holding", "name"]) (G_held : FnOk P w K mg base CX0 1 f_held fd_held ["holding", "name"] (spW cs false W_held)) : FnOk P w K mg base CX0 6 f fd ["state", "rows", "names", "found", "deal"] (spWS Φ (0) false W_law_step_right) := by
  unfold W_law_step_right
  exact fn_okS O.F sc_law_step_right rfl fun S hΦ cdv A outer s0 H E hr => by
    have hS := hcs S hΦ
    have nd := sc_law_step_right.nd
    have hu := hu_of hr
    exact (Vc.q_cons (Vc.s_asg (Vc.v 4) (Vc.g_tup K rfl (Vc.gs_cons (Vc.g_v (i := 5) nd rfl (Or.inl rfl)) (Vc.gs_cons (Vc.g_v (i := 6) nd rfl (Or.inl rfl)) (Vc.gs_cons (Vc.g_v (i := 7) nd rfl (Or.inl rfl)) Vc.gs_nil)))))
      (Vc.q_cons (Vc.s_if (Vc.PVW.t (Vc.w_or (Vc.t_not (Vc.t_val (Vc.c_call hS G_is_holding (hr.mono (by decide)) (by rfl) O_is_holding.g O_is_holding.F.kp O_is_holding.b pass0 (Vc.a_cons (Vc.v 3) Vc.a_nil)))) (Vc.w_or1 (Vc.t_not (Vc.t_val (Vc.c_call hS G_law_others_stay (hr.mono (by decide)) (by rfl) O_law_others_stay.g O_law_others_stay.F.kp O_law_others_stay.b pass0 (Vc.a_cons (Vc.v 1) (Vc.a_cons (Vc.v 3) (Vc.a_cons (Vc.w_n (Vc.n_lst (Vc.a_cons (Vc.v 5) (Vc.a_cons (Vc.v 6) Vc.a_nil)))) Vc.a_nil)))))))))
      (Vc.q_one (Vc.s_ret Vc.c_bl)) Vc.q_nil)
      (Vc.q_cons (Vc.s_if (Vc.PVW.t (Vc.w_or (Vc.t_cmp (k_ne K hr.units) Vc.opd_ne (Vc.c_call hS (fn_calm G_passed) (hr.mono (by decide)) (by rfl) O_passed.g O_passed.F.kp O_passed.b passF (Vc.a_cons (Vc.v 3) (Vc.a_cons (Vc.v 6) (Vc.a_cons (Vc.v 5) (Vc.a_cons (Vc.v 7) Vc.a_nil))))) (Vc.v 1)) (Vc.w_or1 (Vc.t_not (Vc.t_val (Vc.c_call hS G_law_halves (hr.mono (by decide)) (by rfl) O_law_halves.g O_law_halves.F.kp O_law_halves.b pass0 (Vc.a_cons (Vc.v 1) (Vc.a_cons (Vc.v 5) (Vc.a_cons (Vc.v 6) (Vc.a_cons (Vc.v 7) Vc.a_nil))))))))))
      (Vc.q_one (Vc.s_ret Vc.c_bl)) Vc.q_nil)
      (Vc.q_one (Vc.s_ret (Vc.v_or (Vc.cmp (k_ne K hr.units) Vc.opd_ne (Vc.c_call hS G_held (hr.mono (by decide)) (by rfl) O_held.g O_held.F.kp O_held.b pass0 (Vc.a_cons (Vc.v 1) (Vc.a_cons (Vc.v 5) Vc.a_nil))) (Vc.v 7)) (Vc.v_one (Vc.cmp op_isN Vc.opd_isN (Vc.c_call hS G_held (hr.mono (by decide)) (by rfl) O_held.g O_held.F.kp O_held.b pass0 (Vc.a_cons (Vc.v 3) (Vc.a_cons (Vc.v 5) Vc.a_nil))) Vc.c_non))))))))
theorem fn_law {f : Addr} {fd : FuncData} (T : Tb mg cs) (U : Kb K mg) (O : Own K mg "law" s_law f fd ["script"])
    {f_law_begun : Addr} {fd_law_begun : FuncData} (O_law_begun : Own K mg "_law_begun" s_law_begun f_law_begun fd_law_begun ["script"]) (G_law_begun : FnOk P w K mg base CX0 1 f_law_begun fd_law_begun ["script"] (sp_begun K))
    {f_law_names : Addr} {fd_law_names : FuncData} (O_law_names : Own K mg "_law_names" s_law_names f_law_names fd_law_names ["state", "many"]) (G_law_names : FnOk P w K mg base CX0 4 f_law_names fd_law_names ["state", "many"] (spWS (ΦA cs) (2 ^ 68) true W_law_names))
    {f_sole : Addr} {fd_sole : FuncData} (O_sole : Own K mg "sole" s_sole f_sole fd_sole ["name"]) (G_sole : FnOk P w K mg base CX0 1 f_sole fd_sole ["name"] (spW cs false W_sole))
    {f_law_pick : Addr} {fd_law_pick : FuncData} (O_law_pick : Own K mg "_law_pick" s_law_pick f_law_pick fd_law_pick ["state", "some"]) (G_law_pick : FnOk P w K mg base CX0 3 f_law_pick fd_law_pick ["state", "some"] (spWS (ΦA cs) (2 ^ 10) false W_law_pick))
    {f_held : Addr} {fd_held : FuncData} (O_held : Own K mg "held" s_held f_held fd_held ["holding", "name"]) (G_held : FnOk P w K mg base CX0 1 f_held fd_held ["holding", "name"] (spW cs false W_held))
    {f_law_lowest : Addr} {fd_law_lowest : FuncData} (O_law_lowest : Own K mg "_law_lowest" s_law_lowest f_law_lowest fd_law_lowest ["upper", "below"]) (G_law_lowest : FnOk P w K mg base CX0 2 f_law_lowest fd_law_lowest ["upper", "below"] (spW cs false W_law_lowest))
    {f_law_take : Addr} {fd_law_take : FuncData} (O_law_take : Own K mg "_law_take" s_law_take f_law_take fd_law_take ["state", "many"]) (G_law_take : FnOk P w K mg base CX0 2 f_law_take fd_law_take ["state", "many"] (spWS (ΦA cs) (1) false W_law_take))
    {f_law_fraction : Addr} {fd_law_fraction : FuncData} (O_law_fraction : Own K mg "_law_fraction" s_law_fraction f_law_fraction fd_law_fraction ["state"]) (G_law_fraction : FnOk P w K mg base CX0 3 f_law_fraction fd_law_fraction ["state"] (spWS (ΦA cs) (2 ^ 10) false W_law_fraction))
    {f_law_tried : Addr} {fd_law_tried : FuncData} (O_law_tried : Own K mg "_law_tried" s_law_tried f_law_tried fd_law_tried ["rows", "first", "second", "part"]) (G_law_tried : FnOk P w K mg base CX0 4 f_law_tried fd_law_tried ["rows", "first", "second", "part"] (spW cs false W_law_tried))
    {f_law_step_right : Addr} {fd_law_step_right : FuncData} (O_law_step_right : Own K mg "_law_step_right" s_law_step_right f_law_step_right fd_law_step_right ["state", "rows", "names", "found", "deal"]) (G_law_step_right : FnOk P w K mg base CX0 6 f_law_step_right fd_law_step_right ["state", "rows", "names", "found", "deal"] (spWS (ΦA cs) (0) false W_law_step_right))
    {f_passed : Addr} {fd_passed : FuncData} (O_passed : Own K mg "passed" s_passed f_passed fd_passed ["holding", "giver", "taker", "part"]) (G_passed : FnOk P w K mg base (L2.CX P w) 3 f_passed fd_passed ["holding", "giver", "taker", "part"] (spX cs false W_passed))
    {f_is_holding : Addr} {fd_is_holding : FuncData} (O_is_holding : Own K mg "is_holding" s_is_holding f_is_holding fd_is_holding ["thing"]) (G_is_holding : FnOk P w K mg base CX0 4 f_is_holding fd_is_holding ["thing"] (spW cs false W_is_holding))
    (hw : W_law) : FnOk P w K mg base CX0 7 f fd ["script"] (spLaw K cs) := by
  have nd := sc_law.nd
  exact law_okAS (s := A_law K) O.F sc_law G_law_begun O_law_begun.g O_law_begun.F.kp O_law_begun.b rfl (fun cdv A outer s0 H E ts hr h => pss_cons (ps_set (i := 1) nd rfl (Or.inl rfl) (pe_call G_law_begun (hr.mono (by decide)) (by rfl) O_law_begun.g O_law_begun.F.kp O_law_begun.b .nil pass0 (pa_cons (pv 0) pa_nil))) h) (fun S hΦ cdv A outer s0 H E hr => by
    have hS : S.cs = cs := by obtain ⟨p, g, c, rfl⟩ := hΦ; rfl
    have hu := hu_of hr
    exact (Vc.q_cons (Vc.s_set (i := 2) nd rfl (Or.inl rfl) (Vc.w_n (Vc.c_callSN 1 hΦ G_law_names (hr.mono (by decide)) (by rfl) O_law_names.g O_law_names.F.kp O_law_names.b pass0 (Vc.a_cons Vc.c_int Vc.a_nil))))
      (Vc.q_cons (Vc.s_set (i := 3) nd rfl (Or.inl rfl) (Vc.c_call hS G_sole (hr.mono (by decide)) (by rfl) O_sole.g O_sole.F.kp O_sole.b pass0 (Vc.a_cons (Vc.e_ix K (Vc.vs 2) Vc.c_int (fun _ _ => rfl)) Vc.a_nil)))
      (Vc.q_cons (s_forC PassesOwn.never rfl (Vc.i_R1 T.z_range (Vc.bin op_add (Vc.opd_I fun _ _ => .int _) Vc.c_int (Vc.c_ar (call_min2 rfl) Vc.ar_min2 T.z_min (by decide +kernel) (Vc.a_cons Vc.c_int (Vc.a_cons (e_lenS K 0 T.z_len) Vc.a_nil))))) (Vc.g_v (i := 4) nd rfl (Or.inl rfl))
      (Vc.q_cons (s_par (i := 5) (j := 6) (by rfl) nd rfl rfl (by decide) rfl rfl (Vc.a_cons (Vc.c_callS 1 hΦ G_law_pick (hr.mono (by decide)) (by rfl) O_law_pick.g O_law_pick.F.kp O_law_pick.b pass0 (Vc.a_cons (Vc.w_n (Vc.n_lc (own := [("row", 7)]) rfl nd (Vc.i_T K (Vc.v 3)) (blkOk_by (own := [("row", 7)]) (N := N_law) (sc := defScope s_law) (by decide +kernel)) (fun _ _ _ _ _ => (Vc.g_v (i := 7) nd rfl (Or.inl rfl))) (fun _ _ _ _ _ => Vc.ts_nil) (fun _ _ _ _ _ => (Vc.e_ix K (Vc.vs 7) Vc.c_int (fun _ _ => rfl))))) Vc.a_nil)) (Vc.a_cons (Vc.c_callS 1 hΦ G_law_pick (hr.mono (by decide)) (by rfl) O_law_pick.g O_law_pick.F.kp O_law_pick.b pass0 (Vc.a_cons (Vc.v 2) Vc.a_nil)) Vc.a_nil)) (by rfl))
      (Vc.q_cons (Vc.s_set (i := 8) nd rfl (Or.inl rfl) (Vc.c_call hS G_held (hr.mono (by decide)) (by rfl) O_held.g O_held.F.kp O_held.b pass0 (Vc.a_cons (Vc.v 3) (Vc.a_cons (Vc.v 5) Vc.a_nil))))
      (Vc.q_cons (Vc.s_set (i := 9) nd rfl (Or.inl rfl) (Vc.c_call hS G_law_lowest (hr.mono (by decide)) (by rfl) O_law_lowest.g O_law_lowest.F.kp O_law_lowest.b pass0 (Vc.a_cons (Vc.e_ix K (Vc.vs 8) Vc.c_int (fun _ _ => rfl)) (Vc.a_cons (Vc.bin op_mulX (Vc.opd_C fun _ _ => .int _) (Vc.e_ix K (Vc.vs 8) Vc.c_int (fun _ _ => rfl)) (Vc.bin op_add (Vc.opd_I fun _ _ => .int _) Vc.c_int (Vc.c_callS 1 hΦ G_law_take (hr.mono (by decide)) (by rfl) O_law_take.g O_law_take.F.kp O_law_take.b pass0 (Vc.a_cons Vc.c_int Vc.a_nil)))) Vc.a_nil))))
      (Vc.q_cons (Vc.s_set (i := 10) nd rfl (Or.inl rfl) (Vc.c_callS 1 hΦ G_law_pick (hr.mono (by decide)) (by rfl) O_law_pick.g O_law_pick.F.kp O_law_pick.b pass0 (Vc.a_cons (Vc.w_n (Vc.n_lst (Vc.a_cons (Vc.v 8) (Vc.a_cons (Vc.v 9) (Vc.a_cons (Vc.c_callS 1 hΦ G_law_fraction (hr.mono (by decide)) (by rfl) O_law_fraction.g O_law_fraction.F.kp O_law_fraction.b pass0 Vc.a_nil) Vc.a_nil))))) Vc.a_nil)))
      (Vc.q_cons (Vc.s_set (i := 11) nd rfl (Or.inl rfl) (Vc.c_call hS G_law_tried (hr.mono (by decide)) (by rfl) O_law_tried.g O_law_tried.F.kp O_law_tried.b pass0 (Vc.a_cons (Vc.v 3) (Vc.a_cons (Vc.v 5) (Vc.a_cons (Vc.v 6) (Vc.a_cons (Vc.v 10) Vc.a_nil))))))
      (Vc.q_one (Vc.s_if (Vc.t_cmp op_notN Vc.opd_notN (Vc.v 11) Vc.c_non)
      (Vc.q_cons (Vc.s_if (Vc.t_not (Vc.t_val (Vc.c_callS 1 hΦ G_law_step_right (hr.mono (by decide)) (by rfl) O_law_step_right.g O_law_step_right.F.kp O_law_step_right.b pass0 (Vc.a_cons (Vc.v 3) (Vc.a_cons (Vc.v 2) (Vc.a_cons (Vc.v 11) (Vc.a_cons (Vc.e_tup (Vc.a_cons (Vc.v 5) (Vc.a_cons (Vc.v 6) (Vc.a_cons (Vc.v 10) Vc.a_nil)))) Vc.a_nil)))))))
      (Vc.q_one (Vc.s_ret Vc.c_bl)) Vc.q_nil)
      (Vc.q_cons (Vc.s_set (i := 12) nd rfl (Or.inl rfl) (Vc.c_callS 1 hΦ G_law_pick (hr.mono (by decide)) (by rfl) O_law_pick.g O_law_pick.F.kp O_law_pick.b pass0 (Vc.a_cons (Vc.w_n (Vc.n_lc (own := [("row", 7)]) rfl nd (Vc.i_T K (Vc.v 3)) (blkOk_by (own := [("row", 7)]) (N := N_law) (sc := defScope s_law) (by decide +kernel)) (fun _ _ _ _ _ => (Vc.g_v (i := 7) nd rfl (Or.inl rfl))) (fun _ _ _ _ _ => Vc.ts_nil) (fun _ _ _ _ _ => (Vc.e_ix K (Vc.vs 7) Vc.c_int (fun _ _ => rfl))))) Vc.a_nil)))
      (Vc.q_cons (Vc.s_set (i := 13) nd rfl (Or.inl rfl) (Vc.c_call hS G_held (hr.mono (by decide)) (by rfl) O_held.g O_held.F.kp O_held.b pass0 (Vc.a_cons (Vc.v 3) (Vc.a_cons (Vc.v 12) Vc.a_nil))))
      (Vc.q_cons (Vc.s_set (i := 14) nd rfl (Or.inl rfl) (Vc.v_and (Vc.cmpS (k_notIn K hr.units) Vc.ind_notIn (Vc.v 12) (Vc.s_e (Vc.e_tup (Vc.a_cons (Vc.v 5) (Vc.a_cons (Vc.v 6) Vc.a_nil))))) (Vc.v_one (Vc.cmp op_lt (Vc.opd_I fun _ _ => .bl _) (Vc.c_ar (Vc.k_lenA K) Vc.ar_lenA T.z_len (by decide +kernel) (Vc.a_cons (Vc.v 11) Vc.a_nil)) Vc.c_int))))
      (Vc.q_cons (Vc.s_if (Vc.PVW.t (Vc.w_and (Vc.t_val (Vc.v 14)) (Vc.w_and1 (Vc.t_cmp op_notN Vc.opd_notN (Vc.c_call hS G_law_tried (hr.mono (by decide)) (by rfl) O_law_tried.g O_law_tried.F.kp O_law_tried.b pass0 (Vc.a_cons (Vc.v 3) (Vc.a_cons (Vc.v 12) (Vc.a_cons (Vc.v 6) (Vc.a_cons (Vc.v 13) Vc.a_nil))))) Vc.c_non))))
      (Vc.q_cons (Vc.s_set (i := 15) nd rfl (Or.inl rfl) (Vc.c_call hS G_law_tried (hr.mono (by decide)) (by rfl) O_law_tried.g O_law_tried.F.kp O_law_tried.b pass0 (Vc.a_cons (Vc.v 11) (Vc.a_cons (Vc.v 12) (Vc.a_cons (Vc.v 6) (Vc.a_cons (Vc.v 13) Vc.a_nil))))))
      (Vc.q_cons (Vc.s_set (i := 16) nd rfl (Or.inl rfl) (Vc.c_call hS (fn_calm G_passed) (hr.mono (by decide)) (by rfl) O_passed.g O_passed.F.kp O_passed.b passF (Vc.a_cons (Vc.v 3) (Vc.a_cons (Vc.v 12) (Vc.a_cons (Vc.v 6) (Vc.a_cons (Vc.v 13) Vc.a_nil))))))
      (Vc.q_one (Vc.s_if (Vc.PVW.t (Vc.w_or (Vc.t_cmp op_isN Vc.opd_isN (Vc.v 15) Vc.c_non) (Vc.w_or1 (Vc.t_cmp (Vc.k_neD K hr.units) Vc.opd_neD (Vc.v 15) (Vc.c_call hS G_law_tried (hr.mono (by decide)) (by rfl) O_law_tried.g O_law_tried.F.kp O_law_tried.b pass0 (Vc.a_cons (Vc.v 16) (Vc.a_cons (Vc.v 5) (Vc.a_cons (Vc.v 6) (Vc.a_cons (Vc.v 10) Vc.a_nil)))))))))
      (Vc.q_one (Vc.s_ret Vc.c_bl)) Vc.q_nil)))) Vc.q_nil)
      (Vc.q_one (Vc.s_set (i := 3) nd rfl (Or.inl rfl) (Vc.v 11)))))))) (Vc.q_one (Vc.s_if (Vc.PVW.t (Vc.w_and (Vc.t_cmp (Vc.k_neD K hr.units) Vc.opd_neD (Vc.v 5) (Vc.v 6)) (Vc.w_and (Vc.t_cmp op_lt (Vc.opd_I fun _ _ => .bl _) (Vc.c_rd (k_len K) Vc.rd_len T.z_len (by decide +kernel) (Vc.vs 3)) Vc.c_int) (Vc.w_and1 (Vc.t_cmp op_ge (Vc.opd_I fun _ _ => .bl _) (Vc.bin op_mulX (Vc.opd_C fun _ _ => .int _) (Vc.e_ix K (Vc.vs 8) Vc.c_int (fun _ _ => rfl)) (Vc.e_ix K (Vc.vs 10) Vc.c_int (fun _ _ => rfl))) (Vc.bin op_mulX (Vc.opd_C fun _ _ => .int _) (Vc.e_ix K (Vc.vs 10) Vc.c_int (fun _ _ => rfl)) (Vc.e_ix K (Vc.vs 8) Vc.c_int (fun _ _ => rfl))))))))
      (Vc.q_one (Vc.s_ret Vc.c_bl)) Vc.q_nil))))))))))
      (Vc.q_one (Vc.s_ret (Vc.c_call hS G_is_holding (hr.mono (by decide)) (by rfl) O_is_holding.g O_is_holding.F.kp O_is_holding.b pass0 (Vc.a_cons (Vc.v 3) Vc.a_nil)))))))) (by exact Nat.le_trans (m := 2 ^ 102) (Nat.le_of_ble_eq_true rfl) (Nat.pow_le_pow_right (by decide) (by decide))) (hw K)
end

end K28

set_option Elab.async false
set_option linter.all false
set_option maxRecDepth 100000
set_option maxHeartbeats 4000000
/-! Mathematics that the laws share. -/
namespace Vc
open PySem PySem.Spec L2 PySem.W Lh TL
theorem atI_nat {α : Type} {xs : List α} {k : Int} (h0 : 0 ≤ k) (hk : k < xs.length) : ∃ y, atI xs k = some y ∧ y ∈ xs := by
  have hn : k.toNat < xs.length := by omega
  refine ⟨xs[k.toNat], ?_, List.getElem_mem hn⟩
  unfold atI ixN
  rw [if_pos h0, if_pos hk]
  exact List.getElem?_eq_getElem hn
theorem atI_zero {α : Type} {x : α} {xs : List α} : atI (x :: xs) 0 = some x := by
  unfold atI ixN
  rw [if_pos (by decide), if_pos (by rw [List.length_cons]; omega)]
  rfl
/-- the small letters -/
def abc : List Nat := (("abcdefghijklmnopqrstuvwxyz" : Str).cps.toList)
def Nm (s : Str) : Prop := 1 ≤ s.cps.toList.length ∧ s.cps.toList.length ≤ 8 ∧ ∀ c ∈ s.cps.toList, c ∈ abc
theorem abc_ok : ∀ c ∈ abc, c < 0x110000 := by decide +kernel
theorem Nm.len {s : Str} (h : Nm s) : s.length ≤ 8 := by
  have := h.2.1
  rw [Array.length_toList] at this
  exact this
theorem strOk_of {s : Str} (h : ∀ c ∈ s.cps.toList, c ∈ abc) : PyData.strOk s = true := by
  show s.cps.all (· < 0x110000) = true
  rw [← Array.all_toList, List.all_eq_true]
  exact fun c hc => decide_eq_true (abc_ok c (h c hc))
theorem nodup_le {α : Type} [DecidableEq α] : ∀ {xs ys : List α}, xs.Nodup → (∀ x ∈ xs, x ∈ ys) → xs.length ≤ ys.length
  | [], _, _, _ => Nat.zero_le _
  | x :: xs, ys, h, k => by
    have hx : x ∈ ys := k x List.mem_cons_self
    rw [List.nodup_cons] at h
    have h2 : xs.length ≤ (ys.erase x).length := nodup_le h.2 fun y hy => by
      have hne : y ≠ x := fun e => h.1 (e ▸ hy)
      exact (List.mem_erase_of_ne hne).mpr (k y (List.mem_cons_of_mem _ hy))
    rw [List.length_erase_of_mem hx] at h2
    have : 0 < ys.length := List.length_pos_of_mem hx
    rw [List.length_cons]
    omega
theorem join_lets {ys : List Str} (h : ∀ y ∈ ys, ∀ c ∈ tl y, c ∈ abc) : ∀ c ∈ tl (Txt.join "" ys), c ∈ abc := by
  rw [join_eq, tl_join]
  have e : tl ("" : Str) = [] := rfl
  rw [e]
  have key : ∀ zs : List (List Nat), (∀ z ∈ zs, ∀ c ∈ z, c ∈ abc) → ∀ c ∈ joinL [] zs, c ∈ abc := by
    intro zs
    induction zs with
    | nil => intro _ c hc; cases hc
    | cons z zs ih =>
      intro h c hc
      cases zs with
      | nil => exact h z List.mem_cons_self c hc
      | cons w ws =>
        have hc' : c ∈ z ++ ([] ++ joinL [] (w :: ws)) := hc
        rw [List.nil_append, List.mem_append] at hc'
        rcases hc' with hc' | hc'
        · exact h z List.mem_cons_self c hc'
        · exact ih (fun z hz => h z (List.mem_cons_of_mem _ hz)) c hc'
  exact key _ fun z hz => by
    obtain ⟨y, hy, rfl⟩ := List.mem_map.mp hz
    exact h y hy
theorem join_len {ys : List Str} (h : ∀ y ∈ ys, (tl y).length = 1) : (tl (Txt.join "" ys)).length = ys.length := by
  rw [join_eq, tl_join]
  have e : tl ("" : Str) = [] := rfl
  rw [e]
  have key : ∀ zs : List (List Nat), (∀ z ∈ zs, z.length = 1) → (joinL [] zs).length = zs.length := by
    intro zs
    induction zs with
    | nil => intro _; rfl
    | cons z zs ih =>
      intro h
      cases zs with
      | nil => exact h z List.mem_cons_self
      | cons w ws =>
        show (z ++ ([] ++ joinL [] (w :: ws))).length = _
        rw [List.nil_append, List.length_append, h z List.mem_cons_self, ih fun z hz => h z (List.mem_cons_of_mem _ hz)]
        simp only [List.length_cons]
        omega
  rw [key _ fun z hz => by
    obtain ⟨y, hy, rfl⟩ := List.mem_map.mp hz
    exact h y hy, List.length_map]

theorem cut_lets {s : Str} {n : Nat} (h : ∀ c ∈ tl s, c ∈ abc) : ∀ c ∈ tl (cutS s none (some (n : Int))), c ∈ abc := fun c hc => by
  have e : tl (cutS s none (some (n : Int))) = (s.cps.toList.drop 0).take (min n s.length - 0) := by
    unfold cutS
    rw [HT.sIx_none, HT.sIx_nat]
  rw [e] at hc
  exact h c (List.mem_of_mem_drop (List.mem_of_mem_take hc))
theorem cut_tl {s : Str} {n : Nat} : tl (cutS s none (some (n : Int))) = (tl s).take n := by
  unfold cutS
  rw [HT.sIx_none, HT.sIx_nat]
  show (s.cps.toList.drop 0).take (min n s.length - 0) = s.cps.toList.take n
  rw [List.drop_zero, Nat.sub_zero]
  have : s.length = s.cps.toList.length := (Array.length_toList).symm
  rw [this]
  by_cases h : n ≤ s.cps.toList.length
  · rw [Nat.min_eq_left h]
  · rw [Nat.min_eq_right (by omega), List.take_of_length_le (Nat.le_refl _), List.take_of_length_le (by omega)]
end Vc

set_option Elab.async false
set_option linter.all false
set_option maxRecDepth 100000
set_option maxHeartbeats 800000
set_option exponentiation.threshold 3000
/-! Odd things: how deep, how great, how long their texts are. -/
namespace Vc
open PySem PySem.Spec L2 PySem.W Lh TL
/-- plain signs -/
def Asc (s : Str) : Prop := ∀ c ∈ s.cps.toList, c < 128
/-- what may be handed about: so deep, no number and no text too great -/
inductive Od (j : Nat) : Nat → PyData → Prop
  | non {k : Nat} : Od j k .none
  | bl {k : Nat} (b : Bool) : Od j k (.bool b)
  | int {k : Nat} {i : Int} : i.natAbs ≤ 10 ^ 31 + j → Od j k (.int i)
  | str {k : Nat} {s : Str} : s.length ≤ 40 * 4 ^ j → Asc s → Od j k (.str s)
  | lst {k : Nat} {ds : List PyData} : ds.length ≤ 100 + j → (∀ d ∈ ds, Od j k d) → Od j (k + 1) (.list ds)
  | tup {k : Nat} {ds : List PyData} : ds.length ≤ 100 + j → (∀ d ∈ ds, Od j k d) → Od j (k + 1) (.tuple ds)
  | dct {k : Nat} : Od j (k + 1) (.dict [])
theorem Od.up {j j' : Nat} (hj : j ≤ j') {k : Nat} {d : PyData} (h : Od j k d) : ∀ {k' : Nat}, k ≤ k' → Od j' k' d := by
  induction h with
  | non => intro _ _; exact .non
  | bl b => intro _ _; exact .bl b
  | int h => intro _ _; exact .int (by omega)
  | str h1 h2 => intro _ _; exact .str (Nat.le_trans h1 (Nat.mul_le_mul_left _ (Nat.pow_le_pow_right (by decide) hj))) h2
  | lst hl h ih =>
    intro k' hk
    cases k' with
    | zero => omega
    | succ k' => exact .lst (by omega) fun d hd => ih d hd (by omega)
  | tup hl h ih =>
    intro k' hk
    cases k' with
    | zero => omega
    | succ k' => exact .tup (by omega) fun d hd => ih d hd (by omega)
  | dct =>
    intro k' hk
    cases k' with
    | zero => omega
    | succ k' => exact .dct
theorem Od.its {j k : Nat} {ds : List PyData} (h : Od j k (.tuple ds)) : ∃ k', k = k' + 1 ∧ ds.length ≤ 100 + j ∧ ∀ d ∈ ds, Od j k' d := by
  cases h with
  | tup hl h => exact ⟨_, rfl, hl, h⟩
theorem Asc.app {s t : Str} (h1 : Asc s) (h2 : Asc t) : Asc (s ++ t) := fun c hc => by
  have hc' : c ∈ (s.cps ++ t.cps).toList := hc
  rw [Array.toList_append, List.mem_append] at hc'
  rcases hc' with h | h
  · exact h1 c h
  · exact h2 c h
theorem Asc.ok {s : Str} (h : Asc s) : PyData.strOk s = true := by
  show s.cps.all (· < 0x110000) = true
  rw [← Array.all_toList, List.all_eq_true]
  exact fun c hc => decide_eq_true (Nat.lt_trans (h c hc) (by decide))
theorem abc_asc {s : Str} (h : ∀ c ∈ s.cps.toList, c ∈ abc) : Asc s := fun c hc => (show ∀ c ∈ abc, c < 128 by decide +kernel) c (h c hc)
theorem upper_one : ∀ c, c < 128 → ∀ d ∈ Unicode.upperOf c, d < 128 := by
  have : ∀ c ∈ List.range 128, ∀ d ∈ Unicode.upperOf c, d < 128 := by decide +kernel
  exact fun c hc => this c (List.mem_range.mpr hc)
theorem Asc.upper {s : Str} (h : Asc s) : Asc (Txt.upper s) := fun d hd => by
  have hd' : d ∈ (s.cps.mapIdx fun i c => (Unicode.upperOf c).toArray).flatten := Array.mem_toList_iff.mp hd
  obtain ⟨a, ha, hda⟩ := Array.mem_flatten.mp hd'
  obtain ⟨i, hi, rfl⟩ := Array.mem_iff_getElem.mp ha
  rw [Array.getElem_mapIdx] at hda
  refine upper_one _ (h _ ?_) d (by simpa using hda)
  exact Array.mem_toList_iff.mpr (Array.getElem_mem _)
theorem int_asc (i : Int) : Asc (Str.ofString (toString i)) := fun c hc => by
  by_cases h : c = 45 ∨ (48 ≤ c ∧ c ≤ 57)
  · omega
  · exact absurd hc (PyProof.Rows.int_text_free' c ⟨by omega, by omega⟩ i)
theorem log_ok {i : Int} {j : Nat} (hj : j ≤ 50) (h : i.natAbs ≤ 10 ^ 31 + j) : i.natAbs.log2 < 1920 := by
  by_cases h0 : i.natAbs = 0
  · rw [h0]; decide
  · exact (Nat.log2_lt h0).mpr (Nat.lt_of_le_of_lt h (Nat.lt_of_le_of_lt (Nat.add_le_add_left hj _) (by decide)))
theorem int_len {i : Int} {j : Nat} (hj : j ≤ 50) (h : i.natAbs ≤ 10 ^ 31 + j) : (Str.ofString (toString i)).length ≤ 33 := by
  have h2 : i.natAbs < 10 ^ 32 := by omega
  have := int_text_length_le10 (k := 32) (by decide) h2
  rw [ofString_length]
  exact this
mutual
/-- how long a thing's text may be -/
def ms : PyData → Nat
  | .none => 4
  | .bool _ => 5
  | .int _ => 33
  | .str s => 10 * s.length + 2
  | .list xs => 3 + mss xs
  | .tuple xs => 3 + mss xs
  | .dict _ => 2
def mss : List PyData → Nat
  | [] => 0
  | x :: xs => ms x + 2 + mss xs
end
theorem mss_app : ∀ xs ys : List PyData, mss (xs ++ ys) = mss xs + mss ys
  | [], ys => by rw [List.nil_append, mss, Nat.zero_add]
  | x :: xs, ys => by rw [List.cons_append, mss, mss, mss_app xs ys]; omega
theorem mss_mem : ∀ {xs : List PyData} {x : PyData}, x ∈ xs → ms x + 2 ≤ mss xs
  | y :: ys, x, h => by
    rw [mss]
    rcases List.mem_cons.mp h with rfl | h
    · omega
    · have := mss_mem h
      omega
theorem mss_take (n : Nat) (xs : List PyData) : mss (xs.take n) ≤ mss xs := by
  have := mss_app (xs.take n) (xs.drop n)
  rw [List.take_append_drop] at this
  omega
theorem mss_drop (n : Nat) (xs : List PyData) : mss (xs.drop n) ≤ mss xs := by
  have := mss_app (xs.take n) (xs.drop n)
  rw [List.take_append_drop] at this
  omega
theorem mss_rev : ∀ xs : List PyData, mss xs.reverse = mss xs
  | [] => rfl
  | x :: xs => by rw [List.reverse_cons, mss_app, mss_rev xs, mss, mss, mss]; omega
theorem mss_split {xs : List PyData} {i : Nat} (h : i < xs.length) : mss xs = mss (xs.take i) + (ms xs[i] + 2) + mss (xs.drop (i + 1)) := by
  have e : xs = xs.take i ++ xs[i] :: xs.drop (i + 1) := by rw [List.getElem_cons_drop]; exact (List.take_append_drop i xs).symm
  have := congrArg mss e
  rw [mss_app, mss] at this
  omega
theorem shown_all : ∀ {ds : List PyData}, (∀ d ∈ ds, d.shown.length ≤ ms d) → ((PyData.shownAll ds).map (·.length)).sum + 2 * (PyData.shownAll ds).length ≤ mss ds
  | [], _ => by rw [PyData.shownAll]; exact Nat.le_refl _
  | d :: ds, h => by
    have h1 := h d List.mem_cons_self
    have h2 := shown_all fun x hx => h x (List.mem_cons_of_mem _ hx)
    rw [PyData.shownAll, mss, List.map_cons, List.sum_cons, List.length_cons]
    omega
theorem Od.shown {j k : Nat} {d : PyData} (hj : j ≤ 50) (h : Od j k d) : d.shown.length ≤ ms d := by
  induction h with
  | non => rw [PyData.shown, ms]; decide
  | bl b => rw [PyData.shown, ms]; cases b <;> decide
  | int h => rw [PyData.shown, ms]; exact int_len hj h
  | str h1 h2 => rw [PyData.shown, ms]; exact StrLaws.reprText_len _ fun c hc => Nat.lt_trans (h2 c hc) (by decide)
  | @lst k ds hl h ih =>
    rw [PyData.shown, ms]
    have := listText_len_le (PyData.shownAll ds)
    have := shown_all ih
    omega
  | @tup k ds hl h ih =>
    rw [PyData.shown, ms]
    have := tupleText_len_le (PyData.shownAll ds)
    have := shown_all ih
    omega
  | dct => rw [PyData.shown, ms, PyData.shownKv]; decide
theorem showableAll_of : ∀ {ds : List PyData}, (∀ d ∈ ds, d.showable = true) → PyData.showableAll ds = true
  | [], _ => by rw [PyData.showableAll]
  | d :: ds, h => by rw [PyData.showableAll, h d List.mem_cons_self, showableAll_of fun x hx => h x (List.mem_cons_of_mem _ hx)]; rfl
theorem noKvs_of : ∀ {ds : List PyData}, (∀ d ∈ ds, noKv d = true) → noKvs ds = true
  | [], _ => by rw [noKvs]
  | d :: ds, h => by rw [noKvs, h d List.mem_cons_self, noKvs_of fun x hx => h x (List.mem_cons_of_mem _ hx)]; rfl
theorem depths_le {k : Nat} : ∀ {ds : List PyData}, (∀ d ∈ ds, d.depth ≤ k) → PyData.depthAll ds ≤ k
  | [], _ => by rw [PyData.depthAll]; exact Nat.zero_le _
  | d :: ds, h => by
    rw [PyData.depthAll]
    exact Nat.max_le.mpr ⟨h d List.mem_cons_self, depths_le fun x hx => h x (List.mem_cons_of_mem _ hx)⟩
theorem Od.showable {j k : Nat} {d : PyData} (hj : j ≤ 50) (h : Od j k d) : d.showable = true := by
  induction h with
  | non => rw [PyData.showable]
  | bl b => rw [PyData.showable]
  | int h => rw [PyData.showable]; exact decide_eq_true (log_ok hj h)
  | str h1 h2 => rw [PyData.showable]
  | lst hl h ih => rw [PyData.showable]; exact showableAll_of ih
  | tup hl h ih => rw [PyData.showable]; exact showableAll_of ih
  | dct => rw [PyData.showable, PyData.showableKv]
theorem Od.noKv {j k : Nat} {d : PyData} (h : Od j k d) : noKv d = true := by
  induction h with
  | non => rw [Vc.noKv]
  | bl b => rw [Vc.noKv]
  | int h => rw [Vc.noKv]
  | str h1 h2 => rw [Vc.noKv]
  | lst hl h ih => rw [Vc.noKv]; exact noKvs_of ih
  | tup hl h ih => rw [Vc.noKv]; exact noKvs_of ih
  | dct => rw [Vc.noKv]; rfl
theorem Od.depth {j k : Nat} {d : PyData} (h : Od j k d) : d.depth ≤ k := by
  induction h with
  | non => rw [PyData.depth]; exact Nat.zero_le _
  | bl b => rw [PyData.depth]; exact Nat.zero_le _
  | int h => rw [PyData.depth]; exact Nat.zero_le _
  | str h1 h2 => rw [PyData.depth]; exact Nat.zero_le _
  | lst hl h ih => rw [PyData.depth]; exact Nat.succ_le_succ (depths_le ih)
  | tup hl h ih => rw [PyData.depth]; exact Nat.succ_le_succ (depths_le ih)
  | dct => rw [PyData.depth, PyData.depthKv]; omega
/-- repr of such a thing -/
theorem rep_of {j k : Nat} {d : PyData} {Q : PyData → Prop} (hj : j ≤ 50) (hk : k ≤ 60) (h : Od j k d) (hm : ms d ≤ 16000000) (q : Q (.str d.shown)) : gReprA [d] Q :=
  ⟨d, rfl, h.showable hj, h.noKv, Nat.le_trans h.depth hk, by
    rw [sizeLine_eq]
    have := h.shown hj
    omega, q⟩
theorem pick_mod {ds : List PyData} {k : Int} {Q : PyData → Prop} (h0 : 0 ≤ k) (hn : 0 < ds.length) (q : ∀ y ∈ ds, Q y) : ∃ y, atI ds (k.fmod ds.length) = some y ∧ Q y := by
  have e : k.fmod ds.length = k % ds.length := Int.fmod_eq_emod_of_nonneg _ (by omega)
  rw [e]
  obtain ⟨y, h1, h2⟩ := atI_nat (xs := ds) (k := k % ds.length) (Int.emod_nonneg _ (by omega)) (Int.emod_lt_of_pos _ (by omega))
  exact ⟨y, h1, q y h2⟩
theorem line7 {n : Nat} (h : n ≤ 100000) : n ≤ sizeLine := by rw [sizeLine_eq]; exact Nat.le_trans h (by decide)
theorem cut_take (ds : List PyData) (n : Nat) : cutD ds none (some (n : Int)) = ds.take n := by
  unfold cutD
  rw [HT.sIx_none, HT.sIx_nat, List.drop_zero, Nat.sub_zero]
  by_cases h : n ≤ ds.length
  · rw [Nat.min_eq_left h]
  · rw [Nat.min_eq_right (by omega), List.take_of_length_le (Nat.le_refl _), List.take_of_length_le (by omega)]
theorem cut_drop (ds : List PyData) (n : Nat) : cutD ds (some (n : Int)) none = ds.drop n := by
  unfold cutD
  rw [HT.sIx_none, HT.sIx_nat]
  by_cases h : n ≤ ds.length
  · rw [Nat.min_eq_left h, List.take_of_length_le (by rw [List.length_drop]; exact Nat.le_refl _)]
  · rw [Nat.min_eq_right (by omega), List.drop_of_length_le (Nat.le_refl _), List.drop_of_length_le (show ds.length ≤ n by omega), List.take_nil]
theorem len_cut (ds : List PyData) (l h : Option Int) : (cutD ds l h).length ≤ ds.length := by
  unfold cutD
  rw [List.length_take, List.length_drop]
  omega
theorem aNil_of {a : Sg} {Q : List PyData → Prop} (h : Q []) : aNil a Q := h
theorem ifs_or {t : AT} {s u : AS} {En : AEnds} {a : Sg} {C : Prop} (hs : C → s En a) (hu : u En a) (ht : ∀ R : Bool → Prop, (C → R true) → R false → t a R) : aIfS t s u En a :=
  ht _ (fun c => ⟨fun _ => hs c, fun e => (nomatch e)⟩) ⟨fun e => (nomatch e), fun _ => hu⟩
theorem nx_ifs_or {t : AT} {s u r : AS} {En : AEnds} {rt : PyData → Prop} {bk ct : Sg → Prop} {a : Sg} {C : Prop} (hs : C → s { En with nx := r En } a) (hu : u { En with nx := r En } a) (ht : ∀ R : Bool → Prop, (C → R true) → R false → t a R) : (AEnds.mk (aSeq (aIfS t s u) r En) rt bk ct).nx a := ifs_or hs hu ht
theorem if_join {tst : AT} {s u t : AS} {En : AEnds} {a : Sg} (J : Sg → Prop) (ht : ∀ N : Sg → Prop, (∀ a', J a' → N a') → aIfS tst s u { En with nx := N } a) (hJ : ∀ a', J a' → t En a') : aSeq (aIfS tst s u) t En a := ht _ hJ
theorem nx_if_join {tst : AT} {s u t : AS} {En : AEnds} {rt : PyData → Prop} {bk ct : Sg → Prop} {a : Sg} (J : Sg → Prop) (ht : ∀ N : Sg → Prop, (∀ a', J a' → N a') → aIfS tst s u { En with nx := N } a) (hJ : ∀ a', J a' → t En a') : (AEnds.mk (aSeq (aIfS tst s u) t En) rt bk ct).nx a := ht _ hJ
theorem nx_for_join {ai : AN} {ag : AG} {s t : AS} {En : AEnds} {rt : PyData → Prop} {bk ct : Sg → Prop} {a : Sg} (J : Sg → Prop) (ht : ∀ N : Sg → Prop, (∀ a', J a' → N a') → aForC ai ag s { En with nx := N } a) (hJ : ∀ a', J a' → t En a') : (AEnds.mk (aSeq (aForC ai ag s) t En) rt bk ct).nx a := ht _ hJ
theorem for_join {ai : AN} {ag : AG} {s t : AS} {En : AEnds} {a : Sg} (J : Sg → Prop) (ht : ∀ N : Sg → Prop, (∀ a', J a' → N a') → aForC ai ag s { En with nx := N } a) (hJ : ∀ a', J a' → t En a') : aSeq (aForC ai ag s) t En a := ht _ hJ
end Vc


set_option Elab.async false
set_option linter.all false
set_option maxRecDepth 100000
set_option maxHeartbeats 400000
namespace K28
open PySem PySem.Spec L2 PySem.W Lh TL Vc
theorem w_pick {ds : List PyData} {Q : PyData → Prop} (h0 : 0 < ds.length) (h9 : ds.length < 2 ^ 60) (q : ∀ y ∈ ds, Q y) : W_law_pick [.list ds] Q := by
  unfold W_law_pick
  exact ⟨rfl, rfl, _, rfl, by omega, by
    have : (2 : Int) ^ 60 < 2 ^ 1000 := by decide
    have : ((ds.length : Nat) : Int) < 2 ^ 60 := by exact_mod_cast h9
    omega, fun k k0 k9 => by
    obtain ⟨y, e, hy⟩ := atI_nat k0 k9
    exact ⟨y, e, q y hy⟩⟩
theorem w_pickS {z : Str} {Q : PyData → Prop} (h0 : 0 < z.length) (h9 : z.length ≤ 1000) (q : ∀ c ∈ tl z, Q (.str ⟨#[c]⟩)) : W_law_pick [.str z] Q := by
  unfold W_law_pick
  exact ⟨rfl, by rw [sizeLine_eq]; exact Nat.le_trans h9 (by decide), rfl, _, rfl, by omega, by
    have : (1000 : Int) < 2 ^ 1000 := by decide
    omega, fun k k0 k9 => by
    rw [len_tl] at k9
    obtain ⟨y, e, hy⟩ := atI_nat (xs := z.cps.toList) k0 k9
    exact ⟨by rw [sizeLine_eq]; exact Nat.le_trans h9 (by decide), y, e, q y hy⟩⟩
theorem w_take {m : Int} {Q : PyData → Prop} (h0 : 0 < m) (h9 : m < 2 ^ 1000) (q : ∀ k : Int, 0 ≤ k → k < m → Q (.int k)) : W_law_take [.int m] Q := ⟨rfl, m, rfl, h0, h9, q⟩
theorem toD_str (s : Str) : (PyData.str s) = Datum.toD s := rfl
/-- the spare names -/
def spares (who : Str) : List Str := [who] ++ (abc.map fun c => cutS who none (some 7) ++ ⟨#[c]⟩) ++ (abc.map fun c => ("q" : Str) ++ cutS who none (some 6) ++ ⟨#[c]⟩)
theorem lets_nodup : abc.Nodup := by decide +kernel
theorem tl_app (a b : Str) : tl (a ++ b) = tl a ++ tl b := by
  show (a.cps ++ b.cps).toList = _
  simp
theorem spare_ok {who : Str} (h : Nm who) : ∀ s ∈ spares who, Nm s := by
  intro s hs
  unfold spares at hs
  rw [List.mem_append, List.mem_append, List.mem_singleton, List.mem_map, List.mem_map] at hs
  have hc : ∀ c : Nat, tl (⟨#[c]⟩ : Str) = [c] := fun c => rfl
  rcases hs with (rfl | ⟨c, hm, rfl⟩) | ⟨c, hm, rfl⟩
  · exact h
  · have e : tl (cutS who none (some 7) ++ ⟨#[c]⟩ : Str) = (tl who).take 7 ++ [c] := by rw [tl_app, hc]; exact congrArg (· ++ [c]) (cut_tl (n := 7))
    have e' : (cutS who none (some 7) ++ ⟨#[c]⟩ : Str).cps.toList = (tl who).take 7 ++ [c] := e
    unfold Nm
    rw [e']
    refine ⟨by simp, by simp; omega, fun z hz => ?_⟩
    rw [List.mem_append, List.mem_singleton] at hz
    rcases hz with hz | rfl
    · exact h.2.2 z (List.mem_of_mem_take hz)
    · exact hm
  · have e' : (("q" : Str) ++ cutS who none (some 6) ++ ⟨#[c]⟩ : Str).cps.toList = [113] ++ (tl who).take 6 ++ [c] := by
      show tl _ = _
      rw [tl_app, tl_app, hc, show tl (cutS who none (some 6)) = _ from cut_tl (n := 6)]
      rfl
    unfold Nm
    rw [e']
    refine ⟨by simp, by simp; omega, fun z hz => ?_⟩
    rw [List.mem_append, List.mem_append, List.mem_singleton, List.mem_singleton] at hz
    rcases hz with (rfl | hz) | rfl
    · decide +kernel
    · exact h.2.2 z (List.mem_of_mem_take hz)
    · exact hm
/-- one of them is not among less than 26 -/
theorem spare_free (who : Str) {ns : List Str} (h : ns.length < 26) : ∃ s ∈ spares who, s ∉ ns := by
  by_cases hh : ∀ s ∈ spares who, s ∈ ns
  · exfalso
    have nd : (abc.map fun c => cutS who none (some 7) ++ (⟨#[c]⟩ : Str)).Nodup := by
      refine List.pairwise_map.mpr (lets_nodup.imp fun {c d} ne e => ne ?_)
      have e2 := congrArg tl e
      have hc : ∀ c : Nat, tl (⟨#[c]⟩ : Str) = [c] := fun c => rfl
      simp only [tl_app, hc] at e2
      exact List.singleton_inj.mp (List.append_cancel_left e2)
    have := nodup_le nd fun s hs => hh s (List.mem_append_left _ (List.mem_append_right _ hs))
    rw [List.length_map] at this
    have e : abc.length = 26 := by decide +kernel
    omega
  · exact Classical.byContradiction fun hn => hh fun s hs => Classical.byContradiction fun hm => hn ⟨s, hs, hm⟩
def own : List Str := ["lot", "grant", "give", "split", "join", "way", "free", "slip", "done", "void", "least", "none"]
theorem own_ok : ∀ s ∈ own, Nm s := by unfold Nm; decide +kernel

end K28

set_option Elab.async false
set_option linter.all false
set_option maxRecDepth 100000
set_option maxHeartbeats 400000
namespace K28
open PySem PySem.Spec L2 PySem.W Lh TL Vc
theorem w_names {n : Nat} {Q : PyData → Prop} (h0 : n ≤ 25) (q : ∀ ns : List Str, ns.length = n → ns.Nodup → (∀ s ∈ ns, Nm s) → Q (.list (ns.map .str))) : W_law_names [.int n] Q := by
  unfold W_law_names
  refine ⟨rfl, ⟨by omega, by omega⟩, ?_⟩
  refine ⟨?_, ?_⟩
  · show ((List.range _).map _).length ≤ lineN
    rw [List.length_map, List.length_range]
    exact Nat.le_trans (show _ ≤ 25 by omega) (by decide)
  refine for_of (fun xs a => ∃ (ns : List Str) (v5 v6 v7 v8 v9 v10 : AV), a = [.st, .d (.int n), .d (.str "abcdefghijklmnopqrstuvwxyz"), .d (.list (own.map .str)), .l (ns.map .str), v5, v6, v7, v8, v9, v10] ∧ ns.Nodup ∧ (∀ s ∈ ns, Nm s) ∧ ns.length + xs.length = n) ?_ ?_ ?_
  · rintro x xs _ X ⟨ns, v5, v6, v7, v8, v9, v10, rfl, nd, hn, hl⟩ hX
    have body : ∀ who : Str, Nm who → ∀ (v5 v7 : AV) (B : Sg → Prop), (aSeq (Vc.aSet 8 (Vc.aNE (Vc.aCatL (Vc.aNS (Vc.aCatL (Vc.aNS (Vc.aCons (Vc.aV 6) Vc.aNil)) (Vc.aNS (Vc.aLc (Vc.aiS (Vc.aV 2)) (Vc.agV 9) Vc.aYes (Vc.aOp Vc.gAddS (Vc.aSlS (Vc.aV 6) Vc.aONone (Vc.aOSome (Vc.aC (.int 7)))) (Vc.aV 9)) [9])))) (Vc.aNS (Vc.aLc (Vc.aiS (Vc.aV 2)) (Vc.agV 9) Vc.aYes (Vc.aOp Vc.gAddS (Vc.aOp Vc.gAddS (Vc.aC (.str "q")) (Vc.aSlS (Vc.aV 6) Vc.aONone (Vc.aOSome (Vc.aC (.int 6))))) (Vc.aV 9)) [9])))))
    (Vc.aApp 4 (Vc.aIx (Vc.aNS (Vc.aLc (Vc.aiL (Vc.aV 8)) (Vc.agV 10) (Vc.aT (Vc.aOpS (Vc.gIn true) (Vc.aV 10) (Vc.aS 4))) (Vc.aV 10) [10])) (Vc.aC (.int 0))))) { nx := X, rt := Q, bk := B, ct := X } [.st, .d (.int n), .d (.str "abcdefghijklmnopqrstuvwxyz"), .d (.list (own.map .str)), .l (ns.map .str), v5, .d (.str who), v7, v8, v9, v10] := by
      intro who hw v5 v7 B
      have h26 : (signsD "abcdefghijklmnopqrstuvwxyz").length = 26 := by decide +kernel
      have hb26 : (signsD "abcdefghijklmnopqrstuvwxyz").length ≤ sizeLine := by rw [h26, sizeLine_eq]; decide
      have sg : ∀ x ∈ signsD "abcdefghijklmnopqrstuvwxyz", ∃ c : Nat, x = .str ⟨#[c]⟩ := fun x hx => by
        obtain ⟨c, _, rfl⟩ := List.mem_map.mp hx
        exact ⟨c, rfl⟩
      have lw : who.length ≤ sizeLine := by rw [sizeLine_eq]; exact Nat.le_trans hw.len (by decide)
      have lc : ∀ k : Nat, (cutS who none (some (k : Int))).length ≤ 8 := fun k => by
        rw [len_tl, cut_tl, List.length_take]
        exact Nat.le_trans (Nat.min_le_right _ _) hw.2.1
      have l1 : ∀ c : Nat, (⟨#[c]⟩ : Str).length = 1 := fun c => rfl
      refine ⟨hb26, lc_map (fun x => match x with | .str z => .str (cutS who none (some 7) ++ z) | _ => .none) (fun x hx R N r => ?_) ⟨rfl, rfl, ?_, hb26, lc_map (fun x => match x with | .str z => .str (("q" : Str) ++ cutS who none (some 6) ++ z) | _ => .none) (fun x hx R N r => ?_) ⟨rfl, rfl, ?_, ?_⟩⟩⟩
      · obtain ⟨c, rfl⟩ := sg x hx
        refine ⟨fun _ => ⟨lw, ?_, r⟩, fun e => nomatch e⟩
        rw [l1, sizeLine_eq]
        have := lc 7
        exact Nat.le_trans (Nat.add_le_add_right this 1) (by decide)
      · simp only [List.length_append, List.length_map, h26, List.length_singleton, List.length_cons, List.length_nil]
        rw [sizeLine_eq]
        decide
      · obtain ⟨c, rfl⟩ := sg x hx
        have h6 := lc 6
        have hq : (("q" : Str) ++ cutS who none (some 6)).length ≤ 9 := by
          rw [Str.length_append]
          exact Nat.le_trans (Nat.add_le_add_left h6 _) (by decide +kernel)
        refine ⟨fun _ => ⟨lw, ?_, ?_, r⟩, fun e => nomatch e⟩
        · rw [sizeLine_eq]
          exact Nat.le_trans (Nat.add_le_add_left h6 _) (by decide +kernel)
        · rw [l1, sizeLine_eq]
          exact Nat.le_trans (Nat.add_le_add_right hq 1) (by decide)
      · simp only [List.length_append, List.length_map, h26, List.length_singleton, List.length_cons, List.length_nil]
        rw [sizeLine_eq]
        decide
      · generalize hsp : (([PyData.str who] ++ _) ++ _ : List PyData) = sp
        have esp : sp = (spares who).map .str := by
          rw [← hsp]
          unfold spares signsD abc
          simp only [List.map_append, List.map_map, List.map_cons, List.map_nil]
          rfl
        subst esp
        have hns : ns.length < 26 := by
          rw [List.length_cons] at hl
          omega
        have hnl : ns.length < sizeLine := by
          rw [sizeLine_eq]
          exact Nat.lt_of_lt_of_le hns (by decide)
        have hsl : ((spares who).map PyData.str).length ≤ sizeLine := by
          rw [sizeLine_eq]
          unfold spares
          simp only [List.length_append, List.length_map, List.length_singleton]
          decide +kernel
        refine ⟨hsl, lc_fm (fun x => match x with | .str s => if s ∈ ns then none else some (.str s) | _ => none) (fun x hx R N r1 r2 => ?_) ?_⟩
        · obtain ⟨s, _, rfl⟩ := List.mem_map.mp hx
          refine ⟨Str, _, _, s, ns, rfl, rfl, by decide, ?_⟩
          by_cases hs : s ∈ ns
          · refine ⟨fun e => ?_, fun _ => r2 (by simp [hs])⟩
            rw [show Lh.mem s ns = true from mem_iff.mpr hs] at e
            cases e
          · refine ⟨fun _ => r1 _ (by simp [hs]), fun e => ?_⟩
            rw [show Lh.mem s ns = false from decide_eq_false hs] at e
            cases e
        · obtain ⟨s, hs, hn1⟩ := spare_free who hns
          generalize hf : List.filterMap _ _ = fs
          have hmem : ∀ y ∈ fs, ∃ s, y = .str s ∧ s ∈ spares who ∧ s ∉ ns := fun y hy => by
            rw [← hf, List.mem_filterMap] at hy
            obtain ⟨x, hx, e⟩ := hy
            obtain ⟨s, hs, rfl⟩ := List.mem_map.mp hx
            by_cases hm : s ∈ ns
            · simp [hm] at e
            · simp [hm] at e
              exact ⟨s, e.symm, hs, hm⟩
          have hne : fs ≠ [] := fun e => by
            have : PyData.str s ∈ fs := by
              rw [← hf, List.mem_filterMap]
              exact ⟨_, List.mem_map_of_mem hs, by simp [hn1]⟩
            rw [e] at this
            cases this
          cases fs with
          | nil => exact absurd rfl hne
          | cons y ys =>
            obtain ⟨z, rfl, hz1, hz2⟩ := hmem y List.mem_cons_self
            refine ⟨_, atI_zero, by rw [List.length_map]; exact hnl, hX _ ⟨ns ++ [z], v5, .d (.str who), v7, .d (.list ((spares who).map .str)), v9, v10, ?_, ?_, ?_, ?_⟩⟩
            · rw [List.map_append]
              rfl
            · rw [List.nodup_append]
              exact ⟨nd, by simp, fun a ha b hb e => by
                rw [List.mem_singleton] at hb
                exact hz2 (hb ▸ e ▸ ha)⟩
            · intro s hs
              rw [List.mem_append, List.mem_singleton] at hs
              rcases hs with hs | rfl
              · exact hn s hs
              · exact spare_ok hw _ hz1
            · rw [List.length_append]
              rw [List.length_cons] at hl
              simp only [List.length_singleton]
              omega
    refine w_pick (by decide) (by decide) fun y hy => ?_
    obtain ⟨w, hw, rfl⟩ := List.mem_map.mp hy
    refine ⟨rfl, 3, rfl, by decide, by decide, fun k k0 k3 => ?_⟩
    refine ⟨fun _ => ?_, fun _ => by
      refine aNext_of ?_
      exact body w (own_ok w hw) (.d x) v7 _⟩
    refine ⟨rfl, 8, rfl, by decide, by decide, fun k k0 k8 => ?_⟩
    refine ⟨⟨by omega, by omega⟩, ?_, ?_⟩
    · show ((List.range _).map _).length ≤ sizeLine
      rw [List.length_map, List.length_range, sizeLine_eq]
      exact Nat.le_trans (show _ ≤ 8 by omega) (by decide)
    refine lc_rel (fun _ y => ∃ c, c ∈ abc ∧ y = .str ⟨#[c]⟩) (fun x _ R N h => ?_) (fun ys hl hp => ?_)
    · exact ⟨fun _ => w_pickS (by decide +kernel) (by decide +kernel) fun c hc => h _ ⟨c, hc, rfl⟩, fun e => nomatch e⟩
    · have hlen : ys.length = (1 + k).toNat := by rw [hl]; show ((List.range _).map _).length = _; simp
      have ex : ∃ zs : List Str, ys = zs.map .str ∧ ∀ z ∈ zs, ∃ c, c ∈ abc ∧ z = ⟨#[c]⟩ := by
        have hall : ∀ y ∈ ys, ∃ c, c ∈ abc ∧ y = PyData.str ⟨#[c]⟩ := fun y hy => by
          obtain ⟨i, hi, e⟩ := List.mem_iff_getElem.mp hy
          exact hp i _ y (List.getElem?_eq_getElem (by rw [← hl]; exact hi)) (by rw [List.getElem?_eq_getElem hi, e])
        clear hp hl hlen
        induction ys with
        | nil => exact ⟨[], rfl, fun z h => absurd h (by simp)⟩
        | cons y ys ih =>
          obtain ⟨zs, e, hz⟩ := ih fun y hy => hall y (List.mem_cons_of_mem _ hy)
          obtain ⟨c, hc, rfl⟩ := hall y List.mem_cons_self
          refine ⟨⟨#[c]⟩ :: zs, by rw [e]; rfl, fun z hz' => ?_⟩
          rcases List.mem_cons.mp hz' with rfl | hz'
          · exact ⟨c, hc, rfl⟩
          · exact hz z hz'
      obtain ⟨zs, rfl, hz⟩ := ex
      rw [List.length_map] at hlen
      have h1 : ∀ z ∈ zs, (tl z).length = 1 := fun z hz' => by
        obtain ⟨c, _, rfl⟩ := hz z hz'
        rfl
      have h2 : ∀ z ∈ zs, ∀ c ∈ tl z, c ∈ abc := fun z hz' c hc => by
        obtain ⟨d, hd, rfl⟩ := hz z hz'
        rw [List.mem_singleton.mp hc]
        exact hd
      have hj := join_len h1
      refine ⟨zs, rfl, ?_, body _ ⟨by rw [hj]; omega, by rw [hj]; omega, join_lets h2⟩ _ _ _⟩
      have hs : (zs.map (·.length)).sum = zs.length := by
        clear hj hlen hp hl h2 hz
        induction zs with
        | nil => rfl
        | cons z zs ih =>
          rw [List.map_cons, List.sum_cons, ih fun z hz => h1 z (List.mem_cons_of_mem _ hz), len_tl, h1 z List.mem_cons_self, List.length_cons]
          omega
      rw [hs, show (("" : Str)).length = 0 from rfl]
      omega
  · rintro _ ⟨ns, v5, v6, v7, v8, v9, v10, rfl, nd, hn, hl⟩
    exact q ns (by simpa using hl) nd hn
  · exact ⟨[], _, _, _, _, _, _, rfl, .nil, fun s h => absurd h (by simp), by show 0 + ((List.range _).map _).length = n; simp⟩
end K28

set_option Elab.async false
set_option linter.all false
set_option maxRecDepth 100000
set_option maxHeartbeats 400000
/-! Holdings as rows of names and fractions: what a part that is moved does. -/
namespace Hold
variable {α : Type} [DecidableEq α]
def val : List (α × Rat) → α → Rat
  | [], _ => 0
  | r :: rs, s => if r.1 = s then r.2 else val rs s
def tot : List (α × Rat) → Rat
  | [] => 0
  | r :: rs => r.2 + tot rs
def hput (rs : List (α × Rat)) (s : α) (q : Rat) : List (α × Rat) :=
  if rs.any (fun r => decide (r.1 = s)) then rs.map (fun r => if r.1 = s then (r.1, q) else r) else rs ++ [(s, q)]
def hdrop (rs : List (α × Rat)) (s : α) : List (α × Rat) := rs.filter fun r => decide (¬ r.1 = s)
abbrev nms (rs : List (α × Rat)) : List α := rs.map (·.1)
theorem nms_cons {r : α × Rat} {rs : List (α × Rat)} : nms (r :: rs) = r.1 :: nms rs := rfl
theorem val_cons {r : α × Rat} {rs : List (α × Rat)} {s : α} : val (r :: rs) s = if r.1 = s then r.2 else val rs s := rfl
theorem val_no : ∀ {rs : List (α × Rat)} {s : α}, s ∉ nms rs → val rs s = 0
  | [], _, _ => rfl
  | r :: rs, s, h => by
    rw [nms_cons, List.mem_cons, not_or] at h
    rw [val_cons, if_neg fun e => h.1 e.symm]
    exact val_no h.2
theorem val_in {rs : List (α × Rat)} {s : α} (h : val rs s ≠ 0) : s ∈ nms rs := Classical.byContradiction fun n => h (val_no n)
theorem val_mem : ∀ {rs : List (α × Rat)}, (nms rs).Nodup → ∀ r ∈ rs, val rs r.1 = r.2
  | [], _, _, h => by cases h
  | r :: rs, nd, x, h => by
    rw [nms_cons, List.nodup_cons] at nd
    rcases List.mem_cons.mp h with rfl | h
    · rw [val_cons, if_pos rfl]
    · rw [val_cons, if_neg fun (e : r.1 = x.1) => nd.1 (by rw [e]; exact List.mem_map_of_mem h)]
      exact val_mem nd.2 x h
theorem val_get {rs : List (α × Rat)} {s : α} (h : s ∈ nms rs) : ∃ r ∈ rs, r.1 = s ∧ val rs s = r.2 := by
  induction rs with
  | nil => cases h
  | cons r rs ih =>
    by_cases e : r.1 = s
    · exact ⟨r, List.mem_cons_self, e, by rw [val_cons, if_pos e]⟩
    · rw [nms_cons, List.mem_cons] at h
      obtain ⟨x, hx, h1, h2⟩ := ih (h.resolve_left fun z => e z.symm)
      exact ⟨x, List.mem_cons_of_mem _ hx, h1, by rw [val_cons, if_neg e, h2]⟩
theorem any_iff {rs : List (α × Rat)} {s : α} : rs.any (fun r => decide (r.1 = s)) = true ↔ s ∈ nms rs := by
  rw [List.any_eq_true, List.mem_map]
  exact ⟨fun ⟨r, h, e⟩ => ⟨r, h, of_decide_eq_true e⟩, fun ⟨r, h, e⟩ => ⟨r, h, decide_eq_true e⟩⟩
theorem val_map {s : α} {q : Rat} {x : α} : ∀ {rs : List (α × Rat)}, val (rs.map (fun r => if r.1 = s then (r.1, q) else r)) x = if x = s ∧ s ∈ nms rs then q else val rs x
  | [] => by simp [val]
  | r :: rs => by
    rw [List.map_cons, val_cons, val_map (rs := rs), val_cons]
    by_cases e : r.1 = s
    · rw [if_pos e]
      by_cases e2 : r.1 = x
      · rw [if_pos e2, if_pos ⟨e2.symm.trans e, by rw [nms_cons, e]; exact List.mem_cons_self⟩]
      · rw [if_neg e2, if_neg (fun z => e2 (e.trans z.1.symm)), if_neg (fun z => e2 (e.trans z.1.symm)), if_neg e2]
    · rw [if_neg e]
      by_cases e2 : r.1 = x
      · rw [if_pos e2, if_pos e2, if_neg fun z => e (e2.trans z.1)]
      · rw [if_neg e2, if_neg e2]
        by_cases z : x = s ∧ s ∈ nms rs
        · rw [if_pos z, if_pos ⟨z.1, List.mem_cons_of_mem _ z.2⟩]
        · rw [if_neg z, if_neg]
          rintro ⟨z1, z2⟩
          rw [nms_cons, List.mem_cons] at z2
          exact z ⟨z1, z2.resolve_left fun y => e y.symm⟩
theorem val_app {s : α} {q : Rat} {x : α} : ∀ {rs : List (α × Rat)}, s ∉ nms rs → val (rs ++ [(s, q)]) x = if x = s then q else val rs x
  | [], _ => by
    show (if s = x then q else 0) = _
    by_cases e : s = x
    · rw [if_pos e, if_pos e.symm]
    · rw [if_neg e, if_neg fun z => e z.symm]; rfl
  | r :: rs, h => by
    rw [nms_cons, List.mem_cons, not_or] at h
    rw [List.cons_append, val_cons, val_cons, val_app h.2]
    by_cases e : r.1 = x
    · rw [if_pos e, if_pos e, if_neg fun z => h.1 (z.symm.trans e.symm)]
    · rw [if_neg e, if_neg e]
theorem val_hput {rs : List (α × Rat)} {s : α} {q : Rat} {x : α} : val (hput rs s q) x = if x = s then q else val rs x := by
  unfold hput
  by_cases h : s ∈ nms rs
  · rw [if_pos (any_iff.mpr h), val_map]
    by_cases e : x = s
    · rw [if_pos e, if_pos ⟨e, h⟩]
    · rw [if_neg e, if_neg fun z => e z.1]
  · rw [if_neg (fun z => h (any_iff.mp z)), val_app h]
theorem nms_hput {rs : List (α × Rat)} {s : α} {q : Rat} : nms (hput rs s q) = if s ∈ nms rs then nms rs else nms rs ++ [s] := by
  unfold hput
  by_cases h : s ∈ nms rs
  · rw [if_pos (any_iff.mpr h), if_pos h, nms, List.map_map]
    exact List.map_congr_left fun r _ => by
      show (if r.1 = s then (r.1, q) else r).1 = r.1
      split <;> rfl
  · rw [if_neg (fun z => h (any_iff.mp z)), if_neg h, nms, List.map_append]
    rfl
theorem tot_map {s : α} {q : Rat} : ∀ {rs : List (α × Rat)}, (nms rs).Nodup → s ∈ nms rs → tot (rs.map (fun r => if r.1 = s then (r.1, q) else r)) = tot rs - val rs s + q
  | [], _, h => by cases h
  | r :: rs, nd, h => by
    rw [nms_cons, List.nodup_cons] at nd
    rw [List.map_cons, val_cons]
    by_cases e : r.1 = s
    · rw [if_pos e, if_pos e]
      have : rs.map (fun r => if r.1 = s then (r.1, q) else r) = rs := by
        rw [show rs = rs.map id by simp, List.map_map]
        refine List.map_congr_left fun x hx => ?_
        show (if x.1 = s then (x.1, q) else x) = x
        rw [if_neg fun z => nd.1 (by rw [e, ← z]; exact List.mem_map_of_mem hx)]
      rw [this]
      show q + tot rs = r.2 + tot rs - r.2 + q
      grind
    · rw [if_neg e, if_neg e]
      rw [nms_cons, List.mem_cons] at h
      have := tot_map (q := q) nd.2 (h.resolve_left fun z => e z.symm)
      show r.2 + tot _ = r.2 + tot rs - val rs s + q
      rw [this]
      grind
theorem tot_app {s : α} {q : Rat} : ∀ {rs : List (α × Rat)}, tot (rs ++ [(s, q)]) = tot rs + q
  | [] => by show q + 0 = 0 + q; grind
  | r :: rs => by
    show r.2 + tot (rs ++ [(s, q)]) = r.2 + tot rs + q
    rw [tot_app]
    grind
theorem tot_hput {rs : List (α × Rat)} {s : α} {q : Rat} (nd : (nms rs).Nodup) : tot (hput rs s q) = tot rs - val rs s + q := by
  unfold hput
  by_cases h : s ∈ nms rs
  · rw [if_pos (any_iff.mpr h), tot_map nd h]
  · rw [if_neg (fun z => h (any_iff.mp z)), tot_app, val_no h]
    grind
theorem nd_hput {rs : List (α × Rat)} {s : α} {q : Rat} (nd : (nms rs).Nodup) : (nms (hput rs s q)).Nodup := by
  rw [nms_hput]
  split
  · exact nd
  · rename_i h
    rw [List.nodup_append]
    exact ⟨nd, by simp, fun a ha b hb e => h (by rw [List.mem_singleton] at hb; rw [← hb, ← e]; exact ha)⟩
theorem val_hdrop {s x : α} : ∀ {rs : List (α × Rat)}, val (hdrop rs s) x = if x = s then 0 else val rs x
  | [] => by
    show (0 : Rat) = if x = s then 0 else 0
    rw [ite_self]
  | r :: rs => by
    unfold hdrop
    by_cases e : r.1 = s
    · rw [List.filter_cons_of_neg (by simp [e])]
      show val (hdrop rs s) x = _
      rw [val_hdrop, val_cons]
      by_cases z : x = s
      · rw [if_pos z, if_pos z]
      · rw [if_neg z, if_neg z, if_neg fun y => z (y.symm.trans e)]
    · rw [List.filter_cons_of_pos (by simp [e])]
      rw [val_cons, val_cons]
      show (if r.1 = x then r.2 else val (hdrop rs s) x) = _
      rw [val_hdrop]
      by_cases z : r.1 = x
      · rw [if_pos z, if_pos z, if_neg fun y => e (z.trans y)]
      · rw [if_neg z, if_neg z]
theorem hdrop_no {s : α} {rs : List (α × Rat)} (h : s ∉ nms rs) : hdrop rs s = rs := by
  unfold hdrop
  rw [List.filter_eq_self]
  intro r hr
  exact decide_eq_true fun e => h (e ▸ List.mem_map_of_mem hr)
theorem tot_hdrop {s : α} : ∀ {rs : List (α × Rat)}, (nms rs).Nodup → tot (hdrop rs s) = tot rs - val rs s
  | [], _ => by show (0 : Rat) = 0 - 0; grind
  | r :: rs, nd => by
    rw [nms_cons, List.nodup_cons] at nd
    by_cases e : r.1 = s
    · have : hdrop (r :: rs) s = hdrop rs s := List.filter_cons_of_neg (by simp [e])
      rw [this, hdrop_no (e ▸ nd.1), val_cons, if_pos e]
      show tot rs = r.2 + tot rs - r.2
      grind
    · have : hdrop (r :: rs) s = r :: hdrop rs s := List.filter_cons_of_pos (by simp [e])
      rw [this, val_cons, if_neg e]
      show r.2 + tot (hdrop rs s) = r.2 + tot rs - val rs s
      rw [tot_hdrop nd.2]
      grind
theorem nms_hdrop {s : α} {rs : List (α × Rat)} : nms (hdrop rs s) = (nms rs).filter fun x => decide (¬ x = s) := by
  unfold hdrop nms
  rw [List.filter_map]
  rfl
theorem nd_hdrop {rs : List (α × Rat)} {s : α} (nd : (nms rs).Nodup) : (nms (hdrop rs s)).Nodup := by
  rw [nms_hdrop]
  exact nd.sublist List.filter_sublist
theorem perm_val {rs ss : List (α × Rat)} (p : rs.Perm ss) (nd : (nms rs).Nodup) (s : α) : val rs s = val ss s := by
  have nd2 : (nms ss).Nodup := (p.map _).nodup_iff.mp nd
  by_cases h : s ∈ nms rs
  · obtain ⟨r, hr, e, h2⟩ := val_get h
    rw [h2, ← e, val_mem nd2 r (p.mem_iff.mp hr)]
  · rw [val_no h, val_no fun z => h ((p.map _).mem_iff.mpr z)]
theorem perm_tot {rs ss : List (α × Rat)} (p : rs.Perm ss) : tot rs = tot ss := by
  induction p with
  | nil => rfl
  | cons x _ ih => show x.2 + _ = x.2 + _; rw [ih]
  | swap x y l => show y.2 + (x.2 + tot l) = x.2 + (y.2 + tot l); grind
  | trans _ _ h1 h2 => exact h1.trans h2
/-- the rows before they are put in order -/
def mv0 (rs : List (α × Rat)) (g t : α) (q : Rat) : List (α × Rat) :=
  let l := hput (hput rs g (val rs g - q)) t (val (hput rs g (val rs g - q)) t + q)
  if val rs g - q = 0 then hdrop l g else l
structure Pre (rs : List (α × Rat)) (g t : α) (q : Rat) : Prop where
  nd : (nms rs).Nodup
  pos : ∀ r ∈ rs, 0 < r.2
  ne : g ≠ t
  q0 : 0 < q
  le : q ≤ val rs g
theorem val_nn {rs : List (α × Rat)} (pos : ∀ r ∈ rs, 0 < r.2) (s : α) : 0 ≤ val rs s := by
  by_cases h : s ∈ nms rs
  · obtain ⟨r, hr, _, e⟩ := val_get h
    rw [e]
    have := pos r hr
    grind
  · rw [val_no h]
    grind
theorem val_mv0 {rs : List (α × Rat)} {g t : α} {q : Rat} (ne : g ≠ t) (x : α) : val (mv0 rs g t q) x = if x = g then val rs g - q else if x = t then val rs t + q else val rs x := by
  have e : ∀ x, val (hput (hput rs g (val rs g - q)) t (val (hput rs g (val rs g - q)) t + q)) x = if x = g then val rs g - q else if x = t then val rs t + q else val rs x := fun x => by
    rw [val_hput, val_hput, val_hput, if_neg (fun z => ne z.symm : ¬ t = g)]
    by_cases h1 : x = t
    · rw [if_pos h1, if_neg fun z => ne (z.symm.trans h1), if_pos h1]
    · rw [if_neg h1, if_neg h1]
  show val (if val rs g - q = 0 then hdrop _ g else _) x = _
  by_cases h : val rs g - q = 0
  · rw [if_pos h, val_hdrop, e]
    by_cases h1 : x = g
    · rw [if_pos h1, if_pos h1, h]
    · rw [if_neg h1]
  · rw [if_neg h, e]
theorem nd_mv0 {rs : List (α × Rat)} {g t : α} {q : Rat} (nd : (nms rs).Nodup) : (nms (mv0 rs g t q)).Nodup := by
  unfold mv0
  dsimp only
  split
  · exact nd_hdrop (nd_hput (nd_hput nd))
  · exact nd_hput (nd_hput nd)
theorem nms_mv0 {rs : List (α × Rat)} {g t : α} {q : Rat} (h : g ∈ nms rs) {x : α} (hx : x ∈ nms (mv0 rs g t q)) : x ∈ nms rs ∨ x = t := by
  have k : ∀ x, x ∈ nms (hput (hput rs g (val rs g - q)) t (val (hput rs g (val rs g - q)) t + q)) → x ∈ nms rs ∨ x = t := fun x hx => by
    rw [nms_hput, nms_hput, if_pos h] at hx
    split at hx
    · exact .inl hx
    · rw [List.mem_append, List.mem_singleton] at hx
      exact hx
  unfold mv0 at hx
  dsimp only at hx
  split at hx
  · rw [nms_hdrop] at hx
    exact k x (List.mem_filter.mp hx).1
  · exact k x hx
theorem pos_mv0 {rs : List (α × Rat)} {g t : α} {q : Rat} (P : Pre rs g t q) : ∀ r ∈ mv0 rs g t q, 0 < r.2 := by
  intro r hr
  have hg : g ∈ nms rs := val_in (by have := P.q0; have := P.le; grind)
  have e := val_mem (nd_mv0 (t := t) (q := q) (g := g) P.nd) r hr
  rw [val_mv0 P.ne] at e
  by_cases h1 : r.1 = g
  · rw [if_pos h1] at e
    have hne : ¬ val rs g - q = 0 := fun z => by
      unfold mv0 at hr
      dsimp only at hr
      rw [if_pos z] at hr
      exact of_decide_eq_true (List.mem_filter.mp hr).2 h1
    have := P.le
    grind
  · rw [if_neg h1] at e
    by_cases h2 : r.1 = t
    · rw [if_pos h2] at e
      have := val_nn P.pos t
      have := P.q0
      grind
    · rw [if_neg h2] at e
      rw [← e]
      rcases nms_mv0 hg (List.mem_map_of_mem hr) with h3 | h3
      · obtain ⟨x, hx, _, e3⟩ := val_get h3
        rw [e3]
        exact P.pos x hx
      · exact absurd h3 h2
theorem tot_mv0 {rs : List (α × Rat)} {g t : α} {q : Rat} (P : Pre rs g t q) : tot (mv0 rs g t q) = tot rs := by
  have k : tot (hput (hput rs g (val rs g - q)) t (val (hput rs g (val rs g - q)) t + q)) = tot rs := by
    rw [tot_hput (nd_hput P.nd), tot_hput P.nd]
    grind
  unfold mv0
  dsimp only
  split
  · rename_i h
    rw [tot_hdrop (nd_hput (nd_hput P.nd)), k]
    have e : val (hput (hput rs g (val rs g - q)) t (val (hput rs g (val rs g - q)) t + q)) g = 0 := by
      rw [val_hput, if_neg P.ne, val_hput, if_pos rfl, h]
    rw [e]
    grind
  · exact k
theorem len_hput_in {rs : List (α × Rat)} {s : α} {q : Rat} (h : s ∈ nms rs) : (hput rs s q).length = rs.length := by
  unfold hput
  rw [if_pos (any_iff.mpr h), List.length_map]
theorem len_hput {rs : List (α × Rat)} {s : α} {q : Rat} : (hput rs s q).length ≤ rs.length + 1 := by
  unfold hput
  split
  · rw [List.length_map]; omega
  · rw [List.length_append]; exact Nat.le_refl _
theorem len_mv0 {rs : List (α × Rat)} {g t : α} {q : Rat} (P : Pre rs g t q) : (mv0 rs g t q).length ≤ rs.length + 1 ∧ (t ∈ nms rs → (mv0 rs g t q).length ≤ rs.length) := by
  have hg : g ∈ nms rs := val_in (by have := P.q0; have := P.le; grind)
  have a := len_hput_in (q := val rs g - q) hg
  have key : ∀ n, (hput (hput rs g (val rs g - q)) t (val (hput rs g (val rs g - q)) t + q)).length ≤ n → (mv0 rs g t q).length ≤ n := fun n hn => by
    unfold mv0
    dsimp only
    split
    · exact Nat.le_trans (List.length_filter_le _ _) hn
    · exact hn
  refine ⟨key _ (by rw [← a]; exact len_hput), fun ht => key _ ?_⟩
  rw [len_hput_in (by rw [nms_hput, if_pos hg]; exact ht), a]
  exact Nat.le_refl _
/-- two rising lists of the same fractions are one -/
theorem ext {lt : α → α → Prop} (irr : ∀ a, ¬ lt a a) (asy : ∀ a b, lt a b → ¬ lt b a) : ∀ {rs ss : List (α × Rat)}, (nms rs).Pairwise lt → (nms ss).Pairwise lt → (∀ r ∈ rs, 0 < r.2) → (∀ r ∈ ss, 0 < r.2) → (∀ s, val rs s = val ss s) → rs = ss
  | [], [], _, _, _, _, _ => rfl
  | [], r :: ss, _, _, _, p2, h => by
    have := h r.1
    rw [val_cons, if_pos rfl] at this
    have p := p2 r List.mem_cons_self
    change 0 = r.2 at this
    grind
  | r :: rs, [], _, _, p1, _, h => by
    have := h r.1
    rw [val_cons, if_pos rfl] at this
    have p := p1 r List.mem_cons_self
    change r.2 = 0 at this
    grind
  | r :: rs, x :: ss, w1, w2, p1, p2, h => by
    rw [nms_cons, List.pairwise_cons] at w1 w2
    have pr := p1 r List.mem_cons_self
    have px := p2 x List.mem_cons_self
    have e : r.1 = x.1 := by
      have h1 := h r.1
      rw [val_cons, if_pos rfl] at h1
      have i1 : r.1 ∈ nms (x :: ss) := val_in (by rw [← h1]; grind)
      have h2 := h x.1
      rw [val_cons (r := x), if_pos rfl] at h2
      have i2 : x.1 ∈ nms (r :: rs) := val_in (by rw [h2]; grind)
      rw [nms_cons, List.mem_cons] at i1 i2
      rcases i1 with i1 | i1
      · exact i1
      · rcases i2 with i2 | i2
        · exact i2.symm
        · exact absurd (w1.1 _ i2) (asy _ _ (w2.1 _ i1))
    have e2 : r.2 = x.2 := by
      have := h r.1
      rw [val_cons, if_pos rfl, val_cons, if_pos e.symm] at this
      exact this
    have et : rs = ss := by
      refine ext irr asy w1.2 w2.2 (fun y hy => p1 y (List.mem_cons_of_mem _ hy)) (fun y hy => p2 y (List.mem_cons_of_mem _ hy)) fun s => ?_
      by_cases hs : s = r.1
      · subst hs
        rw [val_no fun z => irr _ (w1.1 _ z), val_no fun z => irr _ (w2.1 _ (e ▸ z))]
      · have := h s
        rw [val_cons, if_neg fun z => hs z.symm, val_cons, if_neg fun z => hs (z.symm.trans e.symm)] at this
        exact this
    rw [et, show r = x from Prod.ext e e2]
theorem num_den (a : Rat) : a * (a.den : Rat) = (a.num : Rat) := by
  have h : (a.den : Rat) ≠ 0 := fun e => a.den_nz (by exact_mod_cast e)
  have h1 : a = (a.num : Rat) / (a.den : Rat) := by rw [← Rat.mkRat_eq_div, Rat.mkRat_self]
  have h2 : (a.den : Rat)⁻¹ * (a.den : Rat) = 1 := by rw [Rat.mul_comm]; exact Rat.mul_inv_cancel _ h
  calc a * (a.den : Rat) = (a.num : Rat) / (a.den : Rat) * (a.den : Rat) := by rw [← h1]
    _ = (a.num : Rat) * ((a.den : Rat)⁻¹ * (a.den : Rat)) := by rw [Rat.div_def, Rat.mul_assoc]
    _ = _ := by rw [h2, Rat.mul_one]
/-- multiples of a part -/
def Mu (D : Nat) (q : Rat) : Prop := ∃ z : Int, q * (D : Rat) = (z : Rat)
theorem Mu.add {D : Nat} {a b : Rat} (h : Mu D a) (k : Mu D b) : Mu D (a + b) := by
  obtain ⟨x, hx⟩ := h
  obtain ⟨y, hy⟩ := k
  exact ⟨x + y, by rw [Rat.intCast_add, ← hx, ← hy, Rat.add_mul]⟩
theorem Mu.sub {D : Nat} {a b : Rat} (h : Mu D a) (k : Mu D b) : Mu D (a - b) := by
  obtain ⟨x, hx⟩ := h
  obtain ⟨y, hy⟩ := k
  exact ⟨x - y, by rw [Rat.intCast_sub, ← hx, ← hy]; grind⟩
theorem Mu.zero {D : Nat} : Mu D 0 := ⟨0, by grind⟩
theorem Mu.up {D m : Nat} {a : Rat} (h : Mu D a) : Mu (D * m) a := by
  obtain ⟨x, hx⟩ := h
  exact ⟨x * m, by rw [Rat.intCast_mul, ← hx, Rat.natCast_mul, Rat.intCast_natCast]; grind⟩
theorem Mu.den {D : Nat} {a : Rat} (h : Mu D a) : a.den ∣ D := by
  obtain ⟨z, hz⟩ := h
  have e : a.num * (D : Int) = z * (a.den : Int) := by
    have h1 : a = mkRat a.num a.den := (Rat.mkRat_self a).symm
    have h2 : (a.num : Rat) = a * (a.den : Rat) := by
      exact (num_den a).symm
    have h3 : (a.num : Rat) * (D : Rat) = (z : Rat) * (a.den : Rat) := by
      rw [h2, ← hz]
      grind
    have h4 : ((a.num * (D : Int) : Int) : Rat) = ((z * (a.den : Int) : Int) : Rat) := by
      rw [Rat.intCast_mul, Rat.intCast_mul]
      exact h3
    exact Rat.intCast_inj.mp h4
  have h5 : (a.den : Int) ∣ a.num * (D : Int) := ⟨z, by rw [e, Int.mul_comm]⟩
  have h6 : a.den ∣ a.num.natAbs * D := by
    have := Int.natAbs_dvd_natAbs.mpr h5
    rwa [Int.natAbs_mul, Int.natAbs_natCast, Int.natAbs_natCast] at this
  exact (Nat.Coprime.symm a.reduced).dvd_of_dvd_mul_left h6
theorem Mu.of_den (a : Rat) : Mu a.den a := ⟨a.num, num_den a⟩
end Hold

set_option Elab.async false
set_option linter.all false
set_option maxRecDepth 100000
set_option maxHeartbeats 400000
set_option exponentiation.threshold 3000
namespace K28
open PySem PySem.Spec L2 PySem.W Lh TL Vc
theorem w_shared {a b : Nat} {Q : PyData → Prop} (q : Q (.int (Nat.gcd a b : Nat))) : W_law_shared [.int a, .int b] Q := by
  unfold W_law_shared
  refine ⟨rfl, ?_⟩
  refine aSeq_of (wh_of (fun n a' => ∃ x y : Nat, a' = [.d (.int x), .d (.int y)] ∧ y = n ∧ Nat.gcd x y = Nat.gcd a b) (n := b) ?_ ⟨a, b, rfl, rfl, rfl⟩)
  rintro n _ X ⟨x, y, rfl, rfl, hg⟩ hX
  refine ⟨Int, _, _, (y : Int), 0, rfl, rfl, by decide, fun e => ?_, fun e => ?_⟩
  · have hy : y ≠ 0 := fun z => by subst z; cases e
    have hm : Int.fmod (x : Int) (y : Int) = ((x % y : Nat) : Int) := by
      rw [Int.fmod_eq_emod_of_nonneg _ (by omega)]
      rfl
    refine ⟨by omega, hX (x % y) _ (Nat.mod_lt _ (by omega)) ⟨y, x % y, ?_, rfl, ?_⟩⟩
    · rw [← hm]
      rfl
    · rw [← hg, Nat.gcd_comm x y, Nat.gcd_rec y x, Nat.gcd_comm y (x % y)]
  · have hy : y = 0 := by
      by_cases z : (y : Int) = 0
      · omega
      · rw [decide_eq_false z] at e
        cases e
    subst hy
    rw [Nat.gcd_zero_right] at hg
    show Q (.int x)
    rw [hg]
    exact q
theorem div_ok {i : Int} {g b : Nat} (hg : 0 < g) (hb : g ≤ b) (h9 : b < 2 ^ 2000) : CDivW i g := wide_div (b := 2000) (by omega) (by rw [Int.natAbs_natCast]; omega) (by decide) (by decide)
theorem gcd_le {a b : Nat} (h : 0 < b) : 0 < Nat.gcd a b ∧ Nat.gcd a b ≤ b := ⟨Nat.gcd_pos_of_pos_right _ h, Nat.le_of_dvd h (Nat.gcd_dvd_right _ _)⟩
theorem w_low {a b : Nat} {Q : PyData → Prop} (h0 : 0 < b) (h9 : b < 2 ^ 2000) (q : Q (.tuple [.int (a / Nat.gcd a b : Nat), .int (b / Nat.gcd a b : Nat)])) : W_law_lowest [.int a, .int b] Q := by
  unfold W_law_lowest
  have hg := gcd_le (a := a) h0
  refine ⟨rfl, ?_⟩
  refine w_shared ?_
  exact ⟨div_ok hg.1 hg.2 h9, div_ok hg.1 hg.2 h9, q⟩
theorem pl_low {n : Int} {d : Nat} {Q : PyData → Prop} (h0 : d ≠ 0) (h9 : d < 2 ^ 2000) (q : Q (.tuple [.int (Rat.normalize n d h0).num, .int ((Rat.normalize n d h0).den : Nat)])) : W_lowest [.int n, .int d] Q := by
  unfold W_lowest
  have hg := gcd_le (a := n.natAbs) (show 0 < d by omega)
  rw [Rat.normalize_eq] at q
  exact ⟨rfl, div_ok hg.1 hg.2 h9, div_ok hg.1 hg.2 h9, q⟩
/-- a fraction -/
def frD (q : Rat) : PyData := .tuple [.int q.num, .int (q.den : Nat)]
theorem wl_low {n d : Nat} {Q : PyData → Prop} (h0 : d ≠ 0) (h9 : d < 2 ^ 2000) (q : Q (frD (Rat.normalize n d h0))) : W_law_lowest [.int n, .int d] Q := by
  refine w_low (by omega) h9 ?_
  unfold frD at q
  rw [Rat.normalize_eq] at q
  exact q
end K28

set_option Elab.async false
set_option linter.all false
set_option maxRecDepth 100000
set_option maxHeartbeats 400000
set_option exponentiation.threshold 3000
namespace K28
open PySem PySem.Spec L2 PySem.W Lh TL Vc
def isW : PyData → Bool
  | .int _ => true
  | _ => false
theorem w_whole {i : Int} {Q : PyData → Prop} (q : Q (.bool true)) : W_is_whole [.int i] Q := by
  unfold W_is_whole
  exact ⟨rfl, fun _ => q, fun e => nomatch e⟩
/-- a fraction, as both tell it -/
def isFr : PyData → Bool
  | .tuple [.int n, .int d] => decide (1 ≤ n) && decide (n ≤ d) && decide (Nat.gcd n.natAbs d.natAbs = 1)
  | _ => false
theorem isFr_no {y : PyData} (h : ∀ n d : Int, y ≠ .tuple [.int n, .int d]) : isFr y = false := by
  unfold isFr
  split
  · exact absurd rfl (h _ _)
  · rfl
theorem len2 {xs : List PyData} : ((true ^^ decide ((xs.length : Int) = 2)) = false) → ∃ u v, xs = [u, v] := fun e => by
  have h : (xs.length : Int) = 2 := by
    by_cases h : (xs.length : Int) = 2
    · exact h
    · rw [decide_eq_false h] at e; cases e
  match xs, h with
  | [u, v], _ => exact ⟨u, v, rfl⟩
  | [], h => cases h
  | [_], h => cases h
  | _ :: _ :: _ :: r, h => exact absurd h (by rw [List.length_cons, List.length_cons, List.length_cons]; omega)
theorem len2' {u v : PyData} {xs : List PyData} (h : (true ^^ decide ((xs.length : Int) = 2)) = true) : xs ≠ [u, v] := fun e => by subst e; cases h
theorem p_fr {n d : Int} {Q : PyData → Prop} (q : Q (.bool (isFr (.tuple [.int n, .int d])))) : W_is_fraction [.tuple [.int n, .int d]] Q := by
  unfold W_is_fraction
  refine ⟨rfl, ?_⟩
  refine aSeq_of ?_
  refine ⟨fun e => (nomatch e), fun _ => ?_⟩
  refine ⟨Int, _, _, 2, 2, rfl, rfl, by decide, fun e => (nomatch e), fun e => ?_⟩
  refine ⟨by rw [sizeLine_eq]; show 2 ≤ 16777216; decide, ?_⟩
  refine lc_map (fun y => .bool true) (fun x hx R N r => ⟨fun _ => ?_, fun e => nomatch e⟩) ?_
  · simp only [List.mem_cons, List.not_mem_nil, or_false] at hx
    rcases hx with rfl | rfl
    · exact w_whole r
    · exact w_whole r
  refine ⟨rfl, [true, true], rfl, ?_⟩
  refine ⟨fun e => (nomatch e), fun _ => ?_⟩
  refine aNext_of ?_
  refine ⟨rfl, ?_⟩
  refine ⟨fun e1 => ⟨fun e2 => ⟨Int, _, _, ((Nat.gcd n.natAbs d.natAbs : Nat) : Int), 1, rfl, rfl, by decide, ?_⟩, fun e2 => ?_⟩, fun e1 => ⟨fun e2 => (nomatch e2), fun _ => ?_⟩⟩
  · have e : isFr (.tuple [.int n, .int d]) = (false ^^ decide (((Nat.gcd n.natAbs d.natAbs : Nat) : Int) = 1)) := by
      show (decide (1 ≤ n) && decide (n ≤ d) && decide (Nat.gcd n.natAbs d.natAbs = 1)) = _
      rw [show decide (1 ≤ n) = true from e1, show decide (n ≤ d) = true from e2, Bool.false_xor, Bool.true_and, Bool.true_and]
      exact decide_eq_decide.mpr (by omega)
    rw [e] at q
    exact q
  · have e : isFr (.tuple [.int n, .int d]) = false := by
      show (decide (1 ≤ n) && decide (n ≤ d) && decide (Nat.gcd n.natAbs d.natAbs = 1)) = _
      rw [show decide (n ≤ d) = false from e2, Bool.and_false, Bool.false_and]
    rw [e] at q
    exact q
  · have e : isFr (.tuple [.int n, .int d]) = false := by
      show (decide (1 ≤ n) && decide (n ≤ d) && decide (Nat.gcd n.natAbs d.natAbs = 1)) = _
      rw [show decide (1 ≤ n) = false from e1, Bool.false_and, Bool.false_and]
    rw [e] at q
    exact q
end K28

set_option Elab.async false
set_option linter.all false
set_option maxRecDepth 100000
set_option maxHeartbeats 400000
set_option exponentiation.threshold 3000
namespace K28
open PySem PySem.Spec L2 PySem.W Lh TL Vc
theorem atI_two {u v : PyData} : atI [u, v] 0 = some u ∧ atI [u, v] 1 = some v := ⟨atI_zero, by
  unfold atI ixN
  rw [if_pos (by decide), if_pos (by show (1 : Int) < 2; decide)]
  rfl⟩
def isNm : PyData → Bool
  | .str s => decide (1 ≤ s.length) && decide (s.length ≤ 8) && s.cps.toList.all fun c => decide (c ∈ abc)
  | _ => false
/-- no text is too long -/
def TxtOk (y : PyData) : Prop := ∀ s : Str, y = .str s → s.length ≤ 1000 ∧ PyData.strOk s = true
theorem sign_in (c : Nat) : (!(Builtin.Str.occurrences ("abcdefghijklmnopqrstuvwxyz" : Str) ⟨#[c]⟩ 0 (("abcdefghijklmnopqrstuvwxyz" : Str)).length 1).isEmpty) = decide (c ∈ abc) := StrLaws.found_one _ c
theorem p_nm {s : Str} {Q : PyData → Prop} (h : TxtOk (.str s)) (q : Q (.bool (isNm (.str s)))) : W_is_name [.str s] Q := by
  unfold W_is_name
  refine ⟨rfl, ?_⟩
  show W_is_letters [.str s, .int 8] Q
  unfold W_is_letters
  refine ⟨rfl, ?_⟩
  have hs := (h s rfl).1
  have hz : s.length ≤ sizeLine := by rw [sizeLine_eq]; exact Nat.le_trans hs (by decide)
  refine ⟨fun _ => ⟨hz, ⟨fun e1 => ⟨fun e2 => ?_, fun e2 => ?_⟩, fun e1 => ⟨fun e => (nomatch e), fun _ => ?_⟩⟩⟩, fun e => (nomatch e)⟩
  · refine ⟨by unfold signsD; rw [List.length_map, ← len_tl]; exact hz, ?_⟩
    refine lc_map (fun x => match x with | .str z => .bool (false ^^ !(Builtin.Str.occurrences ("abcdefghijklmnopqrstuvwxyz" : Str) z 0 (("abcdefghijklmnopqrstuvwxyz" : Str)).length 1).isEmpty) | _ => .none) (fun x hx R N r => ?_) ?_
    · obtain ⟨c, _, rfl⟩ := List.mem_map.mp hx
      exact ⟨fun _ => r, fun e => nomatch e⟩
    · refine ⟨rfl, s.cps.toList.map fun c => decide (c ∈ abc), ?_, ?_⟩
      · unfold signsD
        rw [List.map_map, List.map_map]
        refine List.map_congr_left fun c _ => ?_
        show PyData.bool (false ^^ _) = PyData.bool _
        rw [sign_in, Bool.false_xor]
      · have e : isNm (.str s) = (s.cps.toList.map fun c => decide (c ∈ abc)).all id := by
          show (decide (1 ≤ s.length) && decide (s.length ≤ 8) && s.cps.toList.all fun c => decide (c ∈ abc)) = _
          have e1' : decide ((1 : Int) ≤ (s.length : Int)) = true := e1
          have e2' : decide ((s.length : Int) ≤ 8) = true := e2
          rw [decide_eq_true (show 1 ≤ s.length by have := of_decide_eq_true e1'; omega), decide_eq_true (show s.length ≤ 8 by have := of_decide_eq_true e2'; omega), Bool.true_and, Bool.true_and, List.all_map]
          rfl
        rw [e] at q
        exact q
  · have e2' : decide ((s.length : Int) ≤ 8) = false := e2
    have e : isNm (.str s) = false := by
      show (decide (1 ≤ s.length) && decide (s.length ≤ 8) && s.cps.toList.all fun c => decide (c ∈ abc)) = _
      rw [decide_eq_false (show ¬ s.length ≤ 8 by have := of_decide_eq_false e2'; omega), Bool.and_false, Bool.false_and]
    rw [e] at q
    exact q
  · have e1' : decide ((1 : Int) ≤ (s.length : Int)) = false := e1
    have e : isNm (.str s) = false := by
      show (decide (1 ≤ s.length) && decide (s.length ≤ 8) && s.cps.toList.all fun c => decide (c ∈ abc)) = _
      rw [decide_eq_false (show ¬ 1 ≤ s.length by have := of_decide_eq_false e1'; omega), Bool.false_and, Bool.false_and]
    rw [e] at q
    exact q
theorem canAll_of : ∀ {ds : List PyData}, (∀ d ∈ ds, d.canLay0 = true) → PyData.canLayAll0 ds = true
  | [], _ => by rw [PyData.canLayAll0]
  | d :: ds, h => by rw [PyData.canLayAll0, h d List.mem_cons_self, canAll_of fun x hx => h x (List.mem_cons_of_mem _ hx)]; rfl
theorem depthAll_le {k : Nat} : ∀ {ds : List PyData}, (∀ d ∈ ds, d.depth ≤ k) → PyData.depthAll ds ≤ k
  | [], _ => by rw [PyData.depthAll]; exact Nat.zero_le _
  | d :: ds, h => by
    rw [PyData.depthAll]
    exact Nat.max_le.mpr ⟨h d List.mem_cons_self, depthAll_le fun x hx => h x (List.mem_cons_of_mem _ hx)⟩
/-- data of this depth that may be laid -/
def Sh (k : Nat) (d : PyData) : Prop := d.canLay0 = true ∧ d.depth ≤ k
theorem Sh.up {k l : Nat} {d : PyData} (h : Sh k d) (hl : k ≤ l) : Sh l d := ⟨h.1, Nat.le_trans h.2 hl⟩
theorem Sh.shaped {k : Nat} {d : PyData} (h : Sh k d) (hk : k ≤ 64) : SeqAt.shaped d = true := by
  unfold SeqAt.shaped
  rw [h.1, decide_eq_true (Nat.le_trans h.2 hk)]
  rfl
theorem Sh.list {k : Nat} {ds : List PyData} (h : ∀ d ∈ ds, Sh k d) : Sh (k + 1) (.list ds) := ⟨by rw [PyData.canLay0]; exact canAll_of fun d hd => (h d hd).1, by rw [PyData.depth]; exact Nat.succ_le_succ (depthAll_le fun d hd => (h d hd).2)⟩
theorem Sh.tuple {k : Nat} {ds : List PyData} (h : ∀ d ∈ ds, Sh k d) : Sh (k + 1) (.tuple ds) := ⟨by rw [PyData.canLay0]; exact canAll_of fun d hd => (h d hd).1, by rw [PyData.depth]; exact Nat.succ_le_succ (depthAll_le fun d hd => (h d hd).2)⟩
theorem Sh.int {k : Nat} (i : Int) : Sh k (.int i) := ⟨by rw [PyData.canLay0], by rw [PyData.depth]; exact Nat.zero_le _⟩
theorem Sh.bool {k : Nat} (i : Bool) : Sh k (.bool i) := ⟨by rw [PyData.canLay0], by rw [PyData.depth]; exact Nat.zero_le _⟩
theorem Sh.none {k : Nat} : Sh k .none := ⟨by rw [PyData.canLay0], by rw [PyData.depth]; exact Nat.zero_le _⟩
theorem Sh.str {k : Nat} {s : Str} (h : PyData.strOk s = true) : Sh k (.str s) := ⟨by rw [PyData.canLay0]; exact h, by rw [PyData.depth]; exact Nat.zero_le _⟩
end K28

set_option Elab.async false
set_option linter.all false
set_option maxRecDepth 100000
set_option maxHeartbeats 400000
set_option exponentiation.threshold 3000
namespace K28
open PySem PySem.Spec L2 PySem.W Lh TL Vc
def isPart : PyData → Bool
  | .tuple [u, v] => isNm u && isFr v
  | _ => false
/-- a row's texts are not too long -/
def RowOk (y : PyData) : Prop := ∀ u v, y = .tuple [u, v] → TxtOk u
theorem isPart_no {y : PyData} (h : ∀ u v, y ≠ .tuple [u, v]) : isPart y = false := by
  unfold isPart
  split
  · exact absurd rfl (h _ _)
  · rfl
/-- rising -/
def rise (ns : List Str) : Bool := (ns.zip ns.tail).all fun z => DatumOrd.lt z.1 z.2
theorem p_rise {ns : List Str} {Q : PyData → Prop} (h : ns.length ≤ 1000) (q : Q (.bool (rise ns))) : W_is_rising [.list (ns.map .str)] Q := by
  unfold W_is_rising
  refine ⟨rfl, rfl, ?_⟩
  have e1 : cutD (ns.map PyData.str) (some 1) none = ns.tail.map .str := by
    unfold cutD
    rw [show (HT.sIx (ns.map PyData.str).length 0 (some 1)) = min 1 (ns.map PyData.str).length from HT.sIx_nat _ _ 1, HT.sIx_none, List.length_map]
    cases ns with
    | nil => rfl
    | cons n ns =>
      rw [show min 1 (n :: ns).length = 1 from by rw [List.length_cons]; omega]
      rw [List.map_cons, List.drop_succ_cons, List.drop_zero, List.tail_cons, List.take_of_length_le (by rw [List.length_map, List.length_cons]; omega)]
  show (zipD (ns.map .str) (cutD (ns.map PyData.str) (some 1) none)).length ≤ sizeLine ∧ _
  rw [e1]
  refine ⟨by unfold zipD; rw [List.length_map, List.length_zip, List.length_map, sizeLine_eq]; exact Nat.le_trans (Nat.min_le_left _ _) (Nat.le_trans h (by decide)), ?_⟩
  refine lc_map (fun x => match x with | .tuple [.str a, .str b] => .bool (DatumOrd.lt a b) | _ => .none) (fun x hx R N r => ?_) ?_
  · obtain ⟨⟨v, w⟩, hvw, rfl⟩ := List.mem_map.mp hx
    obtain ⟨hv, hw⟩ := List.of_mem_zip hvw
    obtain ⟨s, _, rfl⟩ := List.mem_map.mp hv
    obtain ⟨t, _, rfl⟩ := List.mem_map.mp hw
    exact ⟨rfl, fun _ => ⟨Str, _, _, s, t, rfl, rfl, by decide, r⟩, fun e => nomatch e⟩
  · refine ⟨rfl, (ns.zip ns.tail).map fun z => DatumOrd.lt z.1 z.2, ?_, ?_⟩
    · unfold zipD
      rw [List.zip_map, List.map_map, List.map_map, List.map_map]
      rfl
    · rw [List.all_map]
      exact q

end K28

set_option Elab.async false
set_option linter.all false
set_option maxRecDepth 100000
set_option maxHeartbeats 400000
/-! Orders of data: linear ones; what is sorted. -/
namespace Lh
open PySem PySem.Spec PyProof.Rows L2 PySem.W
class Lin (α : Type) [DecidableEq α] [DatumOrd α] : Prop where
  irr : ∀ a : α, DatumOrd.lt a a = false
  tr : ∀ a b c : α, DatumOrd.lt a b = true → DatumOrd.lt b c = true → DatumOrd.lt a c = true
  tri : ∀ a b : α, DatumOrd.lt a b = false → DatumOrd.lt b a = false → a = b
instance : Lin Int where
  irr a := decide_eq_false (Int.lt_irrefl a)
  tr a b c h k := by
    have h1 := of_decide_eq_true h
    have h2 := of_decide_eq_true k
    exact decide_eq_true (Int.lt_trans h1 h2)
  tri a b h k := by
    have h1 := of_decide_eq_false h
    have h2 := of_decide_eq_false k
    omega
instance : Lin Bool where
  irr a := by cases a <;> rfl
  tr a b c := by cases a <;> cases b <;> cases c <;> decide
  tri a b := by cases a <;> cases b <;> decide
instance : Lin Str where
  irr a := decide_eq_false (List.lt_irrefl _)
  tr a b c h k := decide_eq_true (List.lt_trans (of_decide_eq_true h) (of_decide_eq_true k))
  tri a b h k := by
    have h1 : ¬ a.cps.toList < b.cps.toList := of_decide_eq_false h
    have h2 : ¬ b.cps.toList < a.cps.toList := of_decide_eq_false k
    have e : a.cps.toList = b.cps.toList := List.le_antisymm (List.not_lt.mp h2) (List.not_lt.mp h1)
    cases a
    cases b
    congr 1
    exact Array.toList_inj.mp e
instance {α β : Type} [DecidableEq α] [DatumOrd α] [Lin α] [DecidableEq β] [DatumOrd β] [Lin β] : Lin (α × β) where
  irr a := by
    show (if a.1 = a.1 then DatumOrd.lt a.2 a.2 else _) = false
    rw [if_pos rfl, Lin.irr]
  tr a b c h k := by
    have h : (if a.1 = b.1 then DatumOrd.lt a.2 b.2 else DatumOrd.lt a.1 b.1) = true := h
    have k : (if b.1 = c.1 then DatumOrd.lt b.2 c.2 else DatumOrd.lt b.1 c.1) = true := k
    show (if a.1 = c.1 then DatumOrd.lt a.2 c.2 else DatumOrd.lt a.1 c.1) = true
    by_cases e1 : a.1 = b.1
    · rw [if_pos e1] at h
      by_cases e2 : b.1 = c.1
      · rw [if_pos e2] at k
        rw [if_pos (e1.trans e2)]
        exact Lin.tr _ _ _ h k
      · rw [if_neg e2] at k
        rw [if_neg fun z => e2 (e1.symm.trans z), e1]
        exact k
    · rw [if_neg e1] at h
      by_cases e2 : b.1 = c.1
      · rw [if_neg fun z => e1 (z.trans e2.symm), ← e2]
        exact h
      · rw [if_neg e2] at k
        by_cases e3 : a.1 = c.1
        · exfalso
          rw [e3] at h
          have := Lin.tr _ _ _ h k
          rw [Lin.irr] at this
          cases this
        · rw [if_neg e3]
          exact Lin.tr _ _ _ h k
  tri a b h k := by
    have h : (if a.1 = b.1 then DatumOrd.lt a.2 b.2 else DatumOrd.lt a.1 b.1) = false := h
    have k : (if b.1 = a.1 then DatumOrd.lt b.2 a.2 else DatumOrd.lt b.1 a.1) = false := k
    by_cases e : a.1 = b.1
    · rw [if_pos e] at h
      rw [if_pos e.symm] at k
      exact Prod.ext e (Lin.tri _ _ h k)
    · rw [if_neg e] at h
      rw [if_neg fun z => e z.symm] at k
      exact absurd (Lin.tri _ _ h k) e
section
variable {α : Type} [DecidableEq α] [DatumOrd α] [Lin α]
theorem listLt_irr : ∀ a : List α, listLt a a = false
  | [] => rfl
  | x :: xs => by
    show (if x = x then listLt xs xs else _) = false
    rw [if_pos rfl, listLt_irr xs]
theorem listLt_tr : ∀ a b c : List α, listLt a b = true → listLt b c = true → listLt a c = true
  | _, _, [], _, k => by
    rename_i b _
    cases b <;> cases k
  | [], _, _ :: _, _, _ => rfl
  | _ :: _, [], _ :: _, h, _ => by cases h
  | x :: a, y :: b, z :: c, h, k => by
    have h : (if x = y then listLt a b else DatumOrd.lt x y) = true := h
    have k : (if y = z then listLt b c else DatumOrd.lt y z) = true := k
    show (if x = z then listLt a c else DatumOrd.lt x z) = true
    by_cases e1 : x = y
    · rw [if_pos e1] at h
      by_cases e2 : y = z
      · rw [if_pos e2] at k
        rw [if_pos (e1.trans e2)]
        exact listLt_tr a b c h k
      · rw [if_neg e2] at k
        rw [if_neg fun w => e2 (e1.symm.trans w), e1]
        exact k
    · rw [if_neg e1] at h
      by_cases e2 : y = z
      · rw [if_neg fun w => e1 (w.trans e2.symm), ← e2]
        exact h
      · rw [if_neg e2] at k
        by_cases e3 : x = z
        · exfalso
          rw [e3] at h
          have := Lin.tr _ _ _ h k
          rw [Lin.irr] at this
          cases this
        · rw [if_neg e3]
          exact Lin.tr _ _ _ h k
theorem listLt_tri : ∀ a b : List α, listLt a b = false → listLt b a = false → a = b
  | [], [], _, _ => rfl
  | [], _ :: _, h, _ => by cases h
  | _ :: _, [], _, k => by cases k
  | x :: a, y :: b, h, k => by
    have h : (if x = y then listLt a b else DatumOrd.lt x y) = false := h
    have k : (if y = x then listLt b a else DatumOrd.lt y x) = false := k
    by_cases e : x = y
    · rw [if_pos e] at h
      rw [if_pos e.symm] at k
      rw [e, listLt_tri a b h k]
    · rw [if_neg e] at h
      rw [if_neg fun z => e z.symm] at k
      exact absurd (Lin.tri _ _ h k) e
instance : Lin (List α) where
  irr := listLt_irr
  tr := listLt_tr
  tri := listLt_tri
instance : Lin (Tup α) where
  irr a := listLt_irr a.items
  tr a b c := listLt_tr a.items b.items c.items
  tri a b h k := by
    have := listLt_tri a.items b.items h k
    cases a
    cases b
    exact congrArg Tup.mk this
/-- rising -/
abbrev Rsg (xs : List α) : Prop := xs.Pairwise fun a b => DatumOrd.lt a b = true
theorem lin_asy {a b : α} (h : DatumOrd.lt a b = true) : ¬ DatumOrd.lt b a = true := fun k => by
  have := Lin.tr _ _ _ h k
  rw [Lin.irr] at this
  cases this
theorem leX_lin {a b : α} : leX a b = true ↔ ¬ DatumOrd.lt b a = true := by
  unfold leX
  cases DatumOrd.lt b a <;> simp
theorem leX_tr (a b c : α) (h : leX a b = true) (k : leX b c = true) : leX a c = true := by
  rw [leX_lin] at *
  intro z
  cases e : DatumOrd.lt b c with
  | true =>
    cases e2 : DatumOrd.lt a b with
    | true => exact lin_asy (Lin.tr _ _ _ e2 e) z
    | false =>
      have := Lin.tri _ _ e2 (by simpa using h)
      exact lin_asy e (this ▸ z)
  | false =>
    have := Lin.tri _ _ e (by simpa using k)
    exact h (this ▸ z)
theorem leX_tot (a b : α) : (leX a b || leX b a) = true := by
  rw [Bool.or_eq_true, leX_lin, leX_lin]
  by_cases h : DatumOrd.lt b a = true
  · exact .inr (lin_asy h)
  · exact .inl h
theorem sort_le (S : List α) : (S.mergeSort leX).Pairwise fun a b => leX a b = true := List.pairwise_mergeSort leX_tr leX_tot S
theorem sort_rsg {S : List α} (h : S.Nodup) : Rsg (S.mergeSort leX) := by
  have h2 : (S.mergeSort leX).Nodup := (List.mergeSort_perm S leX).nodup_iff.mpr h
  refine ((sort_le S).and h2).imp fun {a b} ⟨k1, k2⟩ => ?_
  rw [leX_lin] at k1
  cases e : DatumOrd.lt a b with
  | true => rfl
  | false => exact absurd (Lin.tri _ _ e (by simpa using k1)) k2
theorem rsg_eq : ∀ {R S : List α}, Rsg R → Rsg S → (∀ x, x ∈ R ↔ x ∈ S) → R = S
  | [], [], _, _, _ => rfl
  | [], s :: S, _, _, h => absurd ((h s).mpr List.mem_cons_self) (by simp)
  | r :: R, [], _, _, h => absurd ((h r).mp List.mem_cons_self) (by simp)
  | r :: R, s :: S, h1, h2, h => by
    have h1 := List.pairwise_cons.mp h1
    have h2 := List.pairwise_cons.mp h2
    have e : r = s := by
      rcases List.mem_cons.mp ((h r).mp List.mem_cons_self) with e | m
      · exact e
      · rcases List.mem_cons.mp ((h s).mpr List.mem_cons_self) with e | m2
        · exact e.symm
        · exact absurd (h2.1 _ m) (lin_asy (h1.1 _ m2))
    subst e
    congr 1
    have ir : ∀ x, DatumOrd.lt r x = true → x ≠ r := fun x k z => by
      rw [z, Lin.irr] at k
      cases k
    refine rsg_eq h1.2 h2.2 fun x => ⟨fun m => ?_, fun m => ?_⟩
    · exact (List.mem_cons.mp ((h x).mp (List.mem_cons_of_mem _ m))).resolve_left (ir x (h1.1 x m))
    · exact (List.mem_cons.mp ((h x).mpr (List.mem_cons_of_mem _ m))).resolve_left (ir x (h2.1 x m))
theorem rsg_nodup {S : List α} (h : Rsg S) : S.Nodup := h.imp fun {a b} k e => by
  rw [e, Lin.irr] at k
  cases k
theorem rsg_sort {S R : List α} (hn : S.Nodup) (hr : Rsg R) (h : ∀ x, x ∈ S ↔ x ∈ R) : S.mergeSort leX = R :=
  rsg_eq (sort_rsg hn) hr fun x => by rw [List.mem_mergeSort]; exact h x
end
end Lh

set_option Elab.async false
set_option linter.all false
set_option maxRecDepth 100000
set_option maxHeartbeats 1000000
/-! Short rules of conditions, for all laws. -/
namespace Vc
open PySem PySem.Spec L2 PySem.W Lh TL
theorem gx_seq {s t : AS} {En : AEnds} {rt : PyData → Prop} {bk ct : Sg → Prop} {a : Sg} (h : s { En with nx := t En } a) : (AEnds.mk (aSeq s t En) rt bk ct).nx a := h
theorem gNext_seq {s t : AS} {En : AEnds} {rt : PyData → Prop} {bk ct : Sg → Prop} {a : Sg} (h : s { En with nx := t En } a) : aNext { nx := aSeq s t En, rt := rt, bk := bk, ct := ct } a := h
theorem gfor_cons {ag : AG} {body : AS} {En : AEnds} {x : PyData} {xs : List PyData} {a : Sg} (h : ag x a (body { nx := forW ag body En xs, rt := En.rt, bk := En.nx, ct := forW ag body En xs })) : forW ag body En (x :: xs) a := h
theorem gfor_nil {ag : AG} {body : AS} {En : AEnds} {a : Sg} (h : En.nx a) : forW ag body En [] a := h
/-- a filter of data that are the data of something -/
theorem glc_filt {α : Type} [DecidableEq α] [Datum α] {ag : AG} {at_ : AT} {ae : AE} {a : Sg} (p : α → Bool) : ∀ {zs : List α} {Q : List PyData → Prop}, (∀ z ∈ zs, ∀ (R : PyData → Prop) (N : Prop), (p z = true → R (Datum.toD z)) → (p z = false → N) → ag (Datum.toD z) a fun a' => at_ a' fun b => (b = true → ae a' R) ∧ (b = false → N)) →
    Q ((zs.filter p).map (Datum.toD (α := α))) → lcW ag at_ ae a (zs.map (Datum.toD (α := α))) Q
  | [], Q, _, q => q
  | z :: zs, Q, h, q => h z List.mem_cons_self _ _
      (fun hp => glc_filt p (fun y hy => h y (List.mem_cons_of_mem _ hy)) (by rw [List.filter_cons_of_pos hp] at q; exact q))
      fun hp => glc_filt p (fun y hy => h y (List.mem_cons_of_mem _ hy)) (by rw [List.filter_cons_of_neg (by rw [hp]; decide)] at q; exact q)
/-- a filter that may keep what it likes -/
theorem glc_sub {α : Type} [DecidableEq α] [Datum α] {ag : AG} {at_ : AT} {ae : AE} {a : Sg} : ∀ {zs : List α} {Q : List PyData → Prop}, (∀ z ∈ zs, ∀ (R : PyData → Prop) (N : Prop), R (Datum.toD z) → N → ag (Datum.toD z) a fun a' => at_ a' fun b => (b = true → ae a' R) ∧ (b = false → N)) →
    (∀ ys : List α, ys.Sublist zs → Q (ys.map (Datum.toD (α := α)))) → lcW ag at_ ae a (zs.map (Datum.toD (α := α))) Q
  | [], Q, _, q => q [] .slnil
  | z :: zs, Q, h, q => h z List.mem_cons_self _ _
      (glc_sub (fun y hy => h y (List.mem_cons_of_mem _ hy)) fun ys hy => q (z :: ys) (hy.cons₂ z))
      (glc_sub (fun y hy => h y (List.mem_cons_of_mem _ hy)) fun ys hy => q ys (hy.cons z))
/-- a comprehension over data of something, none left out -/
theorem glc_map {α β : Type} [DecidableEq α] [DecidableEq β] [Datum α] [Datum β] {ag : AG} {at_ : AT} {ae : AE} {a : Sg} (f : α → β) {zs : List α} {Q : List PyData → Prop} (h : ∀ z ∈ zs, ∀ (R : PyData → Prop) (N : Prop), R (Datum.toD (f z)) → ag (Datum.toD z) a fun a' => at_ a' fun b => (b = true → ae a' R) ∧ (b = false → N))
    (q : Q ((zs.map f).map (Datum.toD (α := β)))) : lcW ag at_ ae a (zs.map (Datum.toD (α := α))) Q := by
  induction zs generalizing Q with
  | nil => exact q
  | cons z zs ih => exact h z List.mem_cons_self _ _ (ih (fun y hy => h y (List.mem_cons_of_mem _ hy)) q)
/-- all([..]) of a comprehension that gives truths -/
theorem glc_all {ag : AG} {at_ : AT} {ae : AE} {a : Sg} (p : PyData → Bool) : ∀ {zs : List PyData} {Q : List PyData → Prop}, (∀ z ∈ zs, ∀ (R : PyData → Prop) (N : Prop), R (.bool (p z)) → ag z a fun a' => at_ a' fun b => (b = true → ae a' R) ∧ (b = false → N)) →
    Q ((zs.map p).map .bool) → lcW ag at_ ae a zs Q
  | [], Q, _, q => q
  | z :: zs, Q, h, q => h z List.mem_cons_self _ _ (glc_all p (fun y hy => h y (List.mem_cons_of_mem _ hy)) q)
theorem gall_of {bs : List Bool} {Q : PyData → Prop} (q : Q (.bool (bs.all id))) : gAll false (bs.map .bool) Q := ⟨rfl, bs, rfl, q⟩
theorem gin_of {α : Type} [DecidableEq α] [Datum α] {x : α} {as : List α} {t : Bool} {Q : PyData → Prop} (hd : Datum.depth α ≤ 32 := by decide) (q : Q (.bool (mem x as))) : gIn false (Datum.toD x) t (as.map (Datum.toD (α := α))) Q :=
  ⟨α, _, _, x, as, rfl, rfl, hd, by rw [Bool.false_xor]; exact q⟩
theorem gnin_of {α : Type} [DecidableEq α] [Datum α] {x : α} {as : List α} {t : Bool} {Q : PyData → Prop} (hd : Datum.depth α ≤ 32 := by decide) (q : Q (.bool (!mem x as))) : gIn true (Datum.toD x) t (as.map (Datum.toD (α := α))) Q :=
  ⟨α, _, _, x, as, rfl, rfl, hd, by rw [Bool.true_xor]; exact q⟩
theorem geq_of {α : Type} [DecidableEq α] [Datum α] {x y : α} {Q : PyData → Prop} (hd : Datum.depth α ≤ 32 := by decide) (q : Q (.bool (decide (x = y)))) : gEq false (Datum.toD x) (Datum.toD y) Q :=
  ⟨α, _, _, x, y, rfl, rfl, hd, by rw [Bool.false_xor]; exact q⟩
theorem gne_of {α : Type} [DecidableEq α] [Datum α] {x y : α} {Q : PyData → Prop} (hd : Datum.depth α ≤ 32 := by decide) (q : Q (.bool (!decide (x = y)))) : gEq true (Datum.toD x) (Datum.toD y) Q :=
  ⟨α, _, _, x, y, rfl, rfl, hd, by rw [Bool.true_xor]; exact q⟩
theorem gsort_of {α : Type} [DecidableEq α] [DatumOrd α] {xs : List α} {Q : List PyData → Prop} (hd : Datum.depth α ≤ 32 := by decide) (so : SortOk xs) (q : Q ((xs.mergeSort leX).map (Datum.toD (α := α)))) : gSort false (xs.map (Datum.toD (α := α))) Q :=
  ⟨rfl, α, _, _, xs, rfl, hd, so, q⟩
/-- a list of pairs, made by two fors -/
theorem glc2_map {α β γ : Type} [DecidableEq α] [DecidableEq β] [DecidableEq γ] [Datum α] [Datum β] [Datum γ] (g : α → List β) (f : α → β → γ) {ag : AG} {at_ : AT} {ai1 : AN} {ag1 : AG} {at1 : AT} {ae : AE} {vs1 : List Nat} {a : Sg} {zs : List α} {Q : List PyData → Prop}
    (h : ∀ z ∈ zs, ∀ (R : List PyData → Prop) (N : Prop), R (((g z).map (f z)).map (Datum.toD (α := γ))) → ag (Datum.toD z) a fun a' => at_ a' fun b => (b = true → ai1 a' fun es => es.length ≤ 1000 ∧ lcW ag1 at1 ae (wipeA a' vs1) es R) ∧ (b = false → N))
    (q : Q ((zs.flatMap fun z => (g z).map (f z)).map (Datum.toD (α := γ)))) : lcW2 ag at_ ai1 ag1 at1 ae vs1 a (zs.map (Datum.toD (α := α))) Q := by
  induction zs generalizing Q with
  | nil => exact q
  | cons z zs ih =>
    refine h z List.mem_cons_self _ _ (ih (fun y hy => h y (List.mem_cons_of_mem _ hy)) ?_)
    rw [List.flatMap_cons, List.map_append] at q
    exact q
theorem bool_tt {P : Prop} [Decidable P] {A B : Prop} (h : P) (k : A) : (decide P = true → A) ∧ (decide P = false → B) := ⟨fun _ => k, fun e => absurd h (of_decide_eq_false e)⟩
theorem bool_ff {P : Prop} [Decidable P] {A B : Prop} (h : ¬ P) (k : B) : (decide P = true → A) ∧ (decide P = false → B) := ⟨fun e => absurd (of_decide_eq_true e) h, fun _ => k⟩
theorem tt_of {b : Bool} {A B : Prop} (h : b = true) (k : A) : (b = true → A) ∧ (b = false → B) := ⟨fun _ => k, fun e => by rw [h] at e; cases e⟩
theorem ff_of {b : Bool} {A B : Prop} (h : b = false) (k : B) : (b = true → A) ∧ (b = false → B) := ⟨fun e => (by rw [h] at e; cases e), fun _ => k⟩
theorem gx_for (ds : List PyData) {ai : AN} {ag : AG} {body : AS} {En : AEnds} {rt : PyData → Prop} {bk ct : Sg → Prop} {a : Sg} (hi : ∀ R : List PyData → Prop, R ds → ai a R) (h : forW ag body En ds a) : (AEnds.mk (aFor ai ag body En) rt bk ct).nx a := hi _ h
theorem gfor_at (ds : List PyData) {ai : AN} {ag : AG} {body : AS} {En : AEnds} {a : Sg} (hi : ∀ R : List PyData → Prop, R ds → ai a R) (h : forW ag body En ds a) : aFor ai ag body En a := hi _ h
theorem gx_forC (ds : List PyData) {ai : AN} {ag : AG} {body : AS} {En : AEnds} {rt : PyData → Prop} {bk ct : Sg → Prop} {a : Sg} (hi : ∀ R : List PyData → Prop, R ds → ai a R) (hl : ds.length ≤ lineN) (h : forW ag body En ds a) : (AEnds.mk (aForC ai ag body En) rt bk ct).nx a := hi _ ⟨hl, h⟩
theorem gforC_at (ds : List PyData) {ai : AN} {ag : AG} {body : AS} {En : AEnds} {a : Sg} (hi : ∀ R : List PyData → Prop, R ds → ai a R) (hl : ds.length ≤ lineN) (h : forW ag body En ds a) : aForC ai ag body En a := hi _ ⟨hl, h⟩
theorem gx_cons {ag : AG} {body : AS} {En : AEnds} {x : PyData} {xs : List PyData} {a : Sg} {rt : PyData → Prop} {bk ct : Sg → Prop} (h : ag x a (body { nx := forW ag body En xs, rt := En.rt, bk := En.nx, ct := forW ag body En xs })) : (AEnds.mk (forW ag body En (x :: xs)) rt bk ct).nx a := h
theorem gx_nil {ag : AG} {body : AS} {En : AEnds} {a : Sg} {rt : PyData → Prop} {bk ct : Sg → Prop} (h : En.nx a) : (AEnds.mk (forW ag body En []) rt bk ct).nx a := h
theorem gSetN_nil {i : Nat} {En : AEnds} {a : Sg} (h : En.nx (a.set i (.l []))) : aSetN i aNil En a := h
theorem rng_ints (n : Nat) : rng 0 n = ((List.range n).map fun i : Nat => (i : Int)).map (Datum.toD (α := Int)) := by
  unfold rng
  rw [List.map_map]
  refine List.map_congr_left fun i _ => ?_
  show PyData.int (0 + (i : Int)) = PyData.int (i : Int)
  rw [Int.zero_add]
def enK : Nat → List PyData → List PyData
  | _, [] => []
  | k, x :: xs => .tuple [.int (k : Nat), x] :: enK (k + 1) xs
theorem enK_len : ∀ {k : Nat} {xs : List PyData}, (enK k xs).length = xs.length
  | _, [] => rfl
  | k, x :: xs => by
    show (enK (k + 1) xs).length + 1 = xs.length + 1
    rw [enK_len]
theorem enK_get : ∀ {k i : Nat} {xs : List PyData}, i < xs.length → (enK k xs)[i]? = some (.tuple [.int ((k + i : Nat) : Nat), xs.getD i .none])
  | k, i, [], h => absurd h (by simp)
  | k, 0, x :: xs, _ => rfl
  | k, i + 1, x :: xs, h => by
    show (enK (k + 1) xs)[i]? = _
    rw [enK_get (by simpa using h)]
    rw [show k + 1 + i = k + (i + 1) by omega]
    rfl
theorem enumD_en (ds : List PyData) : enumD ds = enK 0 ds := by
  refine List.ext_getElem? fun i => ?_
  by_cases h : i < ds.length
  · rw [enK_get h]
    unfold enumD
    rw [List.getElem?_map, List.getElem?_range h, Nat.zero_add]
    rfl
  · rw [List.getElem?_eq_none (by unfold enumD; rw [List.length_map, List.length_range]; omega), List.getElem?_eq_none (by rw [enK_len]; omega)]
/-- a loop over places and things -/
theorem for_en {ag : AG} {body : AS} {En : AEnds} {α : Type} (f : α → PyData) {zs : List α} (J : List α → List α → Sg → Prop)
    (h : ∀ dn x R a (X : Sg → Prop), dn ++ x :: R = zs → J dn (x :: R) a → (∀ a', J (dn ++ [x]) R a' → X a') → ag (.tuple [.int (dn.length : Nat), f x]) a (body { nx := X, rt := En.rt, bk := En.nx, ct := X }))
    (he : ∀ a, J zs [] a → En.nx a) {a : Sg} (h0 : J [] zs a) : forW ag body En (enumD (zs.map f)) a := by
  rw [enumD_en]
  have key : ∀ (R dn : List α) a, dn ++ R = zs → J dn R a → forW ag body En (enK dn.length (R.map f)) a := by
    intro R
    induction R with
    | nil =>
      intro dn a e j
      rw [List.append_nil] at e
      subst e
      exact he a j
    | cons x R ih =>
      intro dn a e j
      refine h dn x R a _ e j fun a' j' => ?_
      have := ih (dn ++ [x]) a' (by rw [List.append_assoc]; exact e) j'
      rw [List.length_append, List.length_singleton] at this
      exact this
  exact key zs [] a rfl h0
/-- a loop over things -/
theorem for_ds {ag : AG} {body : AS} {En : AEnds} {α : Type} (f : α → PyData) {zs : List α} (J : List α → List α → Sg → Prop)
    (h : ∀ dn x R a (X : Sg → Prop), dn ++ x :: R = zs → J dn (x :: R) a → (∀ a', J (dn ++ [x]) R a' → X a') → ag (f x) a (body { nx := X, rt := En.rt, bk := En.nx, ct := X }))
    (he : ∀ a, J zs [] a → En.nx a) {a : Sg} (h0 : J [] zs a) : forW ag body En (zs.map f) a := by
  have key : ∀ (R dn : List α) a, dn ++ R = zs → J dn R a → forW ag body En (R.map f) a := by
    intro R
    induction R with
    | nil =>
      intro dn a e j
      rw [List.append_nil] at e
      subst e
      exact he a j
    | cons x R ih =>
      intro dn a e j
      exact h dn x R a _ e j fun a' j' => ih (dn ++ [x]) a' (by rw [List.append_assoc]; exact e) j'
  exact key zs [] a rfl h0
/-- a loop so many times -/
theorem for_n {ag : AG} {body : AS} {En : AEnds} {ds : List PyData} (J : Sg → Prop)
    (h : ∀ x a (X : Sg → Prop), J a → (∀ a', J a' → X a') → ag x a (body { nx := X, rt := En.rt, bk := En.nx, ct := X }))
    (he : ∀ a, J a → En.nx a) {a : Sg} (h0 : J a) : forW ag body En ds a :=
  for_of (fun _ a => J a) (fun x xs a X j k => h x a X j k) he h0
end Vc

set_option Elab.async false
set_option linter.all false
set_option maxRecDepth 100000
set_option maxHeartbeats 400000
set_option exponentiation.threshold 3000
namespace K28
open PySem PySem.Spec L2 PySem.W Lh TL Vc Hold
theorem rat_pos {q : Rat} (h : 0 < q) : 0 < q.num := by
  rw [Rat.lt_iff] at h
  have : (0 : Rat).num = 0 := rfl
  have d : (0 : Rat).den = 1 := rfl
  rw [this, d] at h
  omega
theorem rat_le1 {q : Rat} (h : q ≤ 1) : q.num ≤ (q.den : Int) := by
  rw [Rat.le_iff] at h
  have : (1 : Rat).num = 1 := rfl
  have d : (1 : Rat).den = 1 := rfl
  rw [this, d] at h
  omega
theorem fr_ok {q : Rat} (h0 : 0 < q) (h1 : q ≤ 1) : isFr (frD q) = true := by
  have a := rat_pos h0
  have b := rat_le1 h1
  show (decide (1 ≤ q.num) && decide (q.num ≤ (q.den : Int)) && decide (Nat.gcd q.num.natAbs (q.den : Int).natAbs = 1)) = true
  rw [Int.natAbs_natCast, decide_eq_true (show 1 ≤ q.num by omega), decide_eq_true b, decide_eq_true q.reduced]
  rfl
/-- the room that a fraction takes -/
def Bt (q : Rat) : Prop := q.num.natAbs < 2 ^ 450 ∧ q.den < 2 ^ 450
theorem bt_of {D : Nat} {q : Rat} (hD : 0 < D) (h9 : D < 2 ^ 400) (h : Mu D q) (h0 : 0 ≤ q) (h1 : q ≤ 1) : Bt q := by
  have a := Nat.le_of_dvd hD h.den
  have b := Rat.num_nonneg.mpr h0
  have c := rat_le1 h1
  have e : (2 : Nat) ^ 400 < 2 ^ 450 := by decide
  exact ⟨by omega, by omega⟩
theorem p_sum {a b : Rat} {Q : PyData → Prop} (ha : Bt a) (hb : Bt b) (q : Q (frD (a + b))) : W_sum [frD a, frD b] Q := by
  unfold W_sum
  refine ⟨rfl, ?_⟩
  have n1 : ∀ {d : Nat}, d < 2 ^ 450 → (d : Int).natAbs < 2 ^ 450 := fun h => by rw [Int.natAbs_natCast]; exact h
  refine ⟨_, atI_two.1, _, atI_two.2, mulx_ok ha.1 (n1 hb.2) (by decide), _, atI_two.1, _, atI_two.2, mulx_ok hb.1 (n1 ha.2) (by decide), ?_⟩
  refine ⟨_, atI_two.2, _, atI_two.2, mulx_ok (n1 ha.2) (n1 hb.2) (by decide), ?_⟩
  show W_lowest [.int (a.num * (b.den : Int) + b.num * (a.den : Int)), .int ((a.den * b.den : Nat) : Int)] _
  refine pl_low (Nat.mul_ne_zero a.den_nz b.den_nz) ?_ ?_
  · have h1 : a.den * b.den ≤ 2 ^ 450 * 2 ^ 450 := Nat.mul_le_mul (Nat.le_of_lt ha.2) (Nat.le_of_lt hb.2)
    have h2 : (2 : Nat) ^ 450 * 2 ^ 450 < 2 ^ 2000 := by decide
    omega
  · unfold frD at q
    rw [Rat.add_def] at q
    exact q
theorem p_rest {a b : Rat} {Q : PyData → Prop} (ha : Bt a) (hb : Bt b) (q : Q (frD (a - b))) : W_rest [frD a, frD b] Q := by
  unfold W_rest
  refine ⟨rfl, ?_⟩
  have n1 : ∀ {d : Nat}, d < 2 ^ 450 → (d : Int).natAbs < 2 ^ 450 := fun h => by rw [Int.natAbs_natCast]; exact h
  refine ⟨_, atI_two.1, _, atI_two.2, mulx_ok ha.1 (n1 hb.2) (by decide), _, atI_two.1, _, atI_two.2, mulx_ok hb.1 (n1 ha.2) (by decide), ?_⟩
  refine ⟨_, atI_two.2, _, atI_two.2, mulx_ok (n1 ha.2) (n1 hb.2) (by decide), ?_⟩
  show W_lowest [.int (a.num * (b.den : Int) - b.num * (a.den : Int)), .int ((a.den * b.den : Nat) : Int)] _
  refine pl_low (Nat.mul_ne_zero a.den_nz b.den_nz) ?_ ?_
  · have h1 : a.den * b.den ≤ 2 ^ 450 * 2 ^ 450 := Nat.mul_le_mul (Nat.le_of_lt ha.2) (Nat.le_of_lt hb.2)
    have h2 : (2 : Nat) ^ 450 * 2 ^ 450 < 2 ^ 2000 := by decide
    omega
  · unfold frD at q
    rw [Rat.sub_def] at q
    exact q
/-- a row, a holding -/
def rwD (r : Str × Rat) : PyData := .tuple [.str r.1, frD r.2]
def hD (rs : List (Str × Rat)) : PyData := .tuple (rs.map rwD)
abbrev ltS (a b : Str) : Prop := DatumOrd.lt a b = true
structure Good (D : Nat) (rs : List (Str × Rat)) : Prop where
  rise : (nms rs).Pairwise ltS
  pos : ∀ r ∈ rs, 0 < r.2
  one : tot rs = 1
  mu : ∀ r ∈ rs, Mu D r.2
  nm : ∀ r ∈ rs, Nm r.1
  len : rs.length ≤ 12
theorem tot_nn {α : Type} : ∀ {rs : List (α × Rat)}, (∀ r ∈ rs, 0 < r.2) → 0 ≤ tot rs
  | [], _ => by show (0 : Rat) ≤ 0; grind
  | r :: rs, h => by
    have a := h r List.mem_cons_self
    have b := tot_nn fun x hx => h x (List.mem_cons_of_mem _ hx)
    show 0 ≤ r.2 + tot rs
    grind
theorem le_tot {α : Type} : ∀ {rs : List (α × Rat)}, (∀ r ∈ rs, 0 < r.2) → ∀ r ∈ rs, r.2 ≤ tot rs
  | [], _, _, h => by cases h
  | r :: rs, h, x, hx => by
    have a := h r List.mem_cons_self
    have b := tot_nn fun x hx => h x (List.mem_cons_of_mem _ hx)
    show x.2 ≤ r.2 + tot rs
    rcases List.mem_cons.mp hx with rfl | hx
    · grind
    · have := le_tot (fun x hx => h x (List.mem_cons_of_mem _ hx)) x hx
      grind
theorem Good.nd {D : Nat} {rs : List (Str × Rat)} (G : Good D rs) : (nms rs).Nodup := G.rise.imp fun {a b} h e => by
  have h : DatumOrd.lt a b = true := h
  rw [e, Lin.irr] at h
  cases h
theorem Good.val1 {D : Nat} {rs : List (Str × Rat)} (G : Good D rs) (s : Str) : 0 ≤ val rs s ∧ val rs s ≤ 1 ∧ Mu D (val rs s) := by
  refine ⟨val_nn G.pos s, ?_, ?_⟩
  · by_cases h : s ∈ nms rs
    · obtain ⟨r, hr, _, e⟩ := val_get h
      rw [e, ← G.one]
      exact le_tot G.pos r hr
    · rw [val_no h]; grind
  · by_cases h : s ∈ nms rs
    · obtain ⟨r, hr, _, e⟩ := val_get h
      rw [e]
      exact G.mu r hr
    · rw [val_no h]; exact Mu.zero
theorem good_eq {D E : Nat} {rs ss : List (Str × Rat)} (G : Good D rs) (K : Good E ss) (h : ∀ s, val rs s = val ss s) : rs = ss :=
  ext (lt := ltS) (fun a h => by
    have h : DatumOrd.lt a a = true := h
    rw [Lin.irr] at h
    cases h) (fun a b => lin_asy) G.rise K.rise G.pos K.pos h
theorem nm_ok {s : Str} (h : Nm s) : isNm (.str s) = true := by
  show (decide (1 ≤ s.length) && decide (s.length ≤ 8) && s.cps.toList.all fun c => decide (c ∈ abc)) = true
  have e : s.length = s.cps.toList.length := len_tl s
  rw [e, decide_eq_true h.1, decide_eq_true h.2.1, List.all_eq_true.mpr fun c hc => decide_eq_true (h.2.2 c hc)]
  rfl
theorem nm_txt {s : Str} (h : Nm s) : TxtOk (.str s) := fun z e => by
  injection e with e
  subst e
  have e : s.length = s.cps.toList.length := len_tl s
  exact ⟨by rw [e]; have := h.2.1; omega, strOk_of h.2.2⟩
theorem p_name {s : Str} {Q : PyData → Prop} (h : Nm s) (q : Q (.bool true)) : W_is_name [.str s] Q := p_nm (nm_txt h) (by rw [nm_ok h]; exact q)
theorem p_frac {a : Rat} {Q : PyData → Prop} (h0 : 0 < a) (h1 : a ≤ 1) (q : Q (.bool true)) : W_is_fraction [frD a] Q := p_fr (by have e := fr_ok h0 h1; unfold frD at e; rw [e]; exact q)
theorem p_part {r : Str × Rat} {Q : PyData → Prop} (h : Nm r.1) (h0 : 0 < r.2) (h1 : r.2 ≤ 1) (q : Q (.bool true)) : W_is_part [rwD r] Q := by
  unfold W_is_part
  refine ⟨rfl, fun _ => ?_, fun e => (nomatch e)⟩
  refine ⟨Int, _, _, 2, 2, rfl, rfl, by decide, fun e => ⟨_, atI_two.1, p_name h ⟨fun e => ⟨_, atI_two.2, p_frac h0 h1 q⟩, fun e => (nomatch e)⟩⟩, fun e => (nomatch e)⟩
theorem rise_ok : ∀ {ns : List Str}, ns.Pairwise ltS → rise ns = true
  | [], _ => rfl
  | [_], _ => rfl
  | a :: b :: ns, h => by
    rw [List.pairwise_cons] at h
    have k := rise_ok h.2
    show (DatumOrd.lt a b && _) = true
    rw [h.1 b List.mem_cons_self, Bool.true_and]
    exact k
theorem p_isH {D : Nat} {rs : List (Str × Rat)} {Q : PyData → Prop} (hD0 : 0 < D) (h9 : D < 2 ^ 400) (G : Good D rs) (q : Q (.bool true)) : W_is_holding [hD rs] Q := by
  unfold W_is_holding
  have h1 : 1 ≤ rs.length := by
    cases rs with
    | nil => have := G.one; change (0 : Rat) = 1 at this; grind
    | cons r rs => rw [List.length_cons]; omega
  have hl : (rs.map rwD).length = rs.length := List.length_map ..
  refine ⟨rfl, ?_⟩
  refine aSeq_of ?_
  refine ⟨fun e => (nomatch e), fun _ => ⟨fun e1 => ⟨fun e2 => ?_, fun e2 => ?_⟩, fun e1 => ?_⟩⟩
  · have e2' : (!decide (((rs.map rwD).length : Int) ≤ 12)) = true := e2
    rw [Bool.not_eq_true', decide_eq_false_iff_not, hl] at e2'
    have := G.len
    omega
  · refine gNext_seq ?_
    refine ⟨by rw [hl, sizeLine_eq]; exact Nat.le_trans G.len (by decide), ?_⟩
    refine lc_map (fun _ => .bool true) (fun x hx R N r => ⟨fun _ => ?_, fun e => nomatch e⟩) ?_
    · obtain ⟨y, hy, rfl⟩ := List.mem_map.mp hx
      exact p_part (G.nm y hy) (G.pos y hy) (by rw [← G.one]; exact le_tot G.pos y hy) r
    · refine ⟨rfl, (rs.map rwD).map fun _ => true, by rw [List.map_map, List.map_map, List.map_map]; rfl, ?_⟩
      have ea : ((rs.map rwD).map fun _ => true).all id = true := by simp
      rw [ea]
      refine ⟨fun e => (nomatch e), fun _ => ?_⟩
      refine ⟨by rw [hl, sizeLine_eq]; exact Nat.le_trans G.len (by decide), ?_⟩
      refine lc_map (fun x => match x with | .tuple [a, _] => a | _ => .none) (fun x hx R N r => ?_) ?_
      · obtain ⟨y, hy, rfl⟩ := List.mem_map.mp hx
        exact ⟨rfl, fun _ => r, fun e => nomatch e⟩
      · have en : ((rs.map rwD).map fun x => match x with | .tuple [a, _] => a | _ => .none) = (nms rs).map .str := by
          rw [List.map_map, List.map_map]
          rfl
        rw [en]
        refine p_rise (by rw [List.length_map]; have := G.len; omega) ?_
        rw [rise_ok G.rise]
        refine ⟨fun e => (nomatch e), fun _ => ?_⟩
        refine gNext_seq ?_
        refine gx_seq ?_
        refine for_of (fun ys a => ∃ (rest : List (Str × Rat)) (w : Rat) (v1 v2 v3 v5 : AV), ys = rest.map rwD ∧ a = [.d (hD rs), v1, v2, v3, .d (frD w), v5] ∧ (∀ r ∈ rest, r ∈ rs) ∧ 0 ≤ w ∧ Mu D w ∧ w + tot rest = 1) ?_ ?_
          ⟨rs, 0, _, _, _, _, rfl, rfl, fun r h => h, by grind, Mu.zero, by rw [G.one]; grind⟩
        · rintro x xs' _ X ⟨rest, w, v1, v2, v3, v5, e, rfl, hm, w0, wm, wt⟩ hX
          cases rest with
          | nil => cases e
          | cons r rest =>
            rw [List.map_cons] at e
            injection e with e1 e2
            subst e1 e2
            have hr := hm r List.mem_cons_self
            have rp := G.pos r hr
            have tn := tot_nn fun x hx => G.pos x (hm x (List.mem_cons_of_mem _ hx))
            have wt : w + (r.2 + tot rest) = 1 := wt
            refine ⟨rfl, ?_⟩
            refine p_sum (bt_of hD0 h9 wm w0 (by grind)) (bt_of hD0 h9 (G.mu r hr) (by grind) (by grind)) ?_
            exact hX _ ⟨rest, w + r.2, _, _, _, _, rfl, rfl, fun x hx => hm x (List.mem_cons_of_mem _ hx), by grind, wm.add (G.mu r hr), by rw [← wt]; grind⟩
        · rintro _ ⟨rest, w, v1, v2, v3, v5, e, rfl, hm, w0, wm, wt⟩
          cases rest with
          | cons r rest => cases e
          | nil =>
            have w1 : w = 1 := by
              have wt : w + 0 = 1 := wt
              grind
            subst w1
            refine ⟨Int × Int, _, _, (1, 1), (1, 1), rfl, rfl, by decide, ?_⟩
            exact q
  · have e1' : decide ((1 : Int) ≤ ((rs.map rwD).length : Int)) = false := e1
    rw [decide_eq_false_iff_not, hl] at e1'
    omega
end K28

set_option Elab.async false
set_option linter.all false
set_option maxRecDepth 100000
set_option maxHeartbeats 400000
set_option exponentiation.threshold 3000
namespace K28
open PySem PySem.Spec L2 PySem.W Lh TL Vc Hold
def kvD (rs : List (Str × Rat)) : List (L2.Key × PyData) := rs.map fun r => (.inr r.1, frD r.2)
theorem frD0 : PyData.tuple [.int 0, .int 1] = frD 0 := rfl
theorem key_eq {a s : Str} : ((Sum.inr a : L2.Key) = Sum.inr s) = (a = s) := propext ⟨fun e => Sum.inr.inj e, fun e => by rw [e]⟩
theorem dval_kv {s : Str} : ∀ {rs : List (Str × Rat)}, (dVal (kvD rs) (.inr s)).getD (frD 0) = frD (val rs s)
  | [] => rfl
  | r :: rs => by
    show Option.getD (if (Sum.inr r.1 : L2.Key) = Sum.inr s then some (frD r.2) else dVal (kvD rs) (.inr s)) _ = _
    rw [val_cons]
    by_cases e : r.1 = s
    · rw [if_pos (by rw [e]), if_pos e]
      rfl
    · rw [if_neg (by rw [key_eq]; exact e), if_neg e]
      exact dval_kv
theorem dval_some {s : Str} : ∀ {rs : List (Str × Rat)}, s ∈ nms rs → (dVal (kvD rs) (.inr s)).isSome = true
  | [], h => by cases h
  | r :: rs, h => by
    show (if (Sum.inr r.1 : L2.Key) = Sum.inr s then some (frD r.2) else dVal (kvD rs) (.inr s)).isSome = true
    by_cases e : r.1 = s
    · rw [if_pos (by rw [e])]; rfl
    · rw [if_neg (by rw [key_eq]; exact e)]
      rw [nms_cons, List.mem_cons] at h
      exact dval_some (h.resolve_left fun z => e z.symm)
theorem dput_kv {rs : List (Str × Rat)} {s : Str} {q : Rat} : dPut (kvD rs) (.inr s) (frD q) = kvD (hput rs s q) := by
  have ea : (kvD rs).any (fun kv => decide (kv.1 = (Sum.inr s : L2.Key))) = rs.any (fun r => decide (r.1 = s)) := by
    unfold kvD
    rw [List.any_map]
    congr 1
    funext r
    show decide ((Sum.inr r.1 : L2.Key) = Sum.inr s) = decide (r.1 = s)
    exact decide_eq_decide.mpr (by rw [key_eq])
  unfold dPut hput
  rw [ea]
  split
  · unfold kvD
    rw [List.map_map, List.map_map]
    refine List.map_congr_left fun r _ => ?_
    show (if (Sum.inr r.1 : L2.Key) = Sum.inr s then ((Sum.inr r.1 : L2.Key), frD q) else (Sum.inr r.1, frD r.2)) = (Sum.inr (if r.1 = s then (r.1, q) else r).1, frD (if r.1 = s then (r.1, q) else r).2)
    by_cases e : r.1 = s
    · rw [if_pos (by rw [e]), if_pos e]
    · rw [if_neg (by rw [key_eq]; exact e), if_neg e]
  · unfold kvD
    rw [List.map_append]
    rfl
theorem ddrop_kv {rs : List (Str × Rat)} {s : Str} : dDrop (kvD rs) (.inr s) = kvD (hdrop rs s) := by
  unfold dDrop hdrop kvD
  rw [List.filter_map]
  congr 1
  refine List.filter_congr fun r _ => ?_
  show decide (¬ (Sum.inr r.1 : L2.Key) = Sum.inr s) = decide (¬ r.1 = s)
  exact decide_eq_decide.mpr (by rw [key_eq])
theorem len_kv {rs : List (Str × Rat)} : (kvD rs).length = rs.length := List.length_map ..
/-- the rows as the machine sorts them -/
abbrev Rw := Str × (Int × Int)
def enc (r : Str × Rat) : Rw := (r.1, r.2.num, (r.2.den : Int))
def dec (r : Rw) : Str × Rat := (r.1, mkRat r.2.1 r.2.2.toNat)
theorem dec_enc (r : Str × Rat) : dec (enc r) = r := by
  show (r.1, mkRat r.2.num (r.2.den : Int).toNat) = r
  rw [Int.toNat_natCast, Rat.mkRat_self]
theorem enc_toD (r : Str × Rat) : Datum.toD (enc r) = rwD r := rfl
/-- what a part that is moved leaves -/
structure Mv (D : Nat) (rs : List (Str × Rat)) (g t : Str) (q : Rat) (ss : List (Str × Rat)) : Prop where
  rise : (nms ss).Pairwise ltS
  pos : ∀ r ∈ ss, 0 < r.2
  one : tot ss = 1
  mu : ∀ r ∈ ss, Mu D r.2
  nm : ∀ r ∈ ss, Nm r.1
  l1 : ss.length ≤ rs.length + 1
  l2 : t ∈ nms rs → ss.length ≤ rs.length
  v : ∀ x, val ss x = if x = g then val rs g - q else if x = t then val rs t + q else val rs x
  ne : g ≠ t
theorem Mv.good {D : Nat} {rs ss : List (Str × Rat)} {g t : Str} {q : Rat} (h : Mv D rs g t q ss) (hl : ss.length ≤ 12) : Good D ss := ⟨h.rise, h.pos, h.one, h.mu, h.nm, hl⟩
theorem sorted_mv {D : Nat} {rs : List (Str × Rat)} {g t : Str} {q : Rat} (G : Good D rs) (nt : Nm t) (mq : Mu D q) (P : Pre rs g t q) :
    ∃ ss, (((mv0 rs g t q).map enc).mergeSort leX).map (Datum.toD (α := Rw)) = ss.map rwD ∧ Mv D rs g t q ss ∧ ss.length = (mv0 rs g t q).length := by
  have hg : g ∈ nms rs := val_in (by have := P.q0; have := P.le; grind)
  have p := List.mergeSort_perm ((mv0 rs g t q).map enc) leX
  have pd : ((((mv0 rs g t q).map enc).mergeSort leX).map dec).Perm (mv0 rs g t q) := by
    have := p.map dec
    rwa [List.map_map, show (dec ∘ enc) = id from funext dec_enc, List.map_id] at this
  have hy : ∀ y ∈ ((mv0 rs g t q).map enc).mergeSort leX, y = enc (dec y) := fun y hy => by
    obtain ⟨r, _, rfl⟩ := List.mem_map.mp (p.mem_iff.mp hy)
    rw [dec_enc]
  have e1 : (((mv0 rs g t q).map enc).mergeSort leX).map (Datum.toD (α := Rw)) = ((((mv0 rs g t q).map enc).mergeSort leX).map dec).map rwD := by
    rw [List.map_map]
    refine List.map_congr_left fun y h => ?_
    show Datum.toD y = rwD (dec y)
    rw [← enc_toD, ← hy y h]
  have nd := nd_mv0 (rs := rs) (g := g) (t := t) (q := q) P.nd
  have ndss : (nms ((((mv0 rs g t q).map enc).mergeSort leX).map dec)).Nodup := (pd.map (·.1)).nodup_iff.mpr nd
  refine ⟨_, e1, ⟨?_, fun r h => pos_mv0 P r (pd.mem_iff.mp h), by rw [perm_tot pd, tot_mv0 P, G.one], ?_, ?_, ?_, ?_, fun x => by rw [perm_val pd ndss, val_mv0 P.ne], P.ne⟩, pd.length_eq⟩
  · have s1 := sort_le ((mv0 rs g t q).map enc)
    have en : nms ((((mv0 rs g t q).map enc).mergeSort leX).map dec) = (((mv0 rs g t q).map enc).mergeSort leX).map (·.1) := by
      unfold nms
      rw [List.map_map]
      rfl
    rw [en] at ndss ⊢
    rw [List.pairwise_map]
    refine (s1.and (List.pairwise_map.mp ndss)).imp fun {a b} ⟨h1, h2⟩ => ?_
    rw [leX_lin] at h1
    have h1 : ¬ (if b.1 = a.1 then DatumOrd.lt b.2 a.2 else DatumOrd.lt b.1 a.1) = true := h1
    rw [if_neg fun z => h2 z.symm] at h1
    show DatumOrd.lt a.1 b.1 = true
    cases e : DatumOrd.lt a.1 b.1 with
    | true => rfl
    | false => exact absurd (Lin.tri _ _ e (by simpa using h1)) h2
  · intro r h
    have h' := pd.mem_iff.mp h
    rw [← val_mem nd r h', val_mv0 P.ne]
    split
    · exact (G.val1 g).2.2.sub mq
    · split
      · exact (G.val1 t).2.2.add mq
      · exact (G.val1 r.1).2.2
  · intro r h
    rcases nms_mv0 hg (List.mem_map_of_mem (pd.mem_iff.mp h)) with h1 | h1
    · obtain ⟨x, hx, e, _⟩ := val_get h1
      rw [← e]
      exact G.nm x hx
    · rw [h1]; exact nt
  · rw [pd.length_eq]; exact (len_mv0 P).1
  · rw [pd.length_eq]; exact (len_mv0 P).2
/-- the dict of a holding -/
theorem dc_rows {ag : AG} {at_ : AT} {ak av : AE} {a : Sg} (st : ∀ (r : Str × Rat) (acc : List (L2.Key × PyData)) (K : List (L2.Key × PyData) → Prop), K (dPut acc (.inr r.1) (frD r.2)) → ag (rwD r) a fun a' => at_ a' fun b => (b = true → ak a' fun y => av a' fun z => gKey y fun k => K (dPut acc k z)) ∧ (b = false → K acc)) :
    ∀ {rs acc : List (Str × Rat)} {Q : List (L2.Key × PyData) → Prop}, (nms (acc ++ rs)).Nodup → Q (kvD (acc ++ rs)) → dcW ag at_ ak av a (rs.map rwD) (kvD acc) Q
  | [], acc, Q, _, q => by rw [List.append_nil] at q; exact q
  | r :: rs, acc, Q, nd, q => by
    refine st r (kvD acc) (fun ac => dcW ag at_ ak av a (rs.map rwD) ac Q) ?_
    show dcW ag at_ ak av a (rs.map rwD) (dPut (kvD acc) (.inr r.1) (frD r.2)) Q
    rw [dput_kv]
    have hn : r.1 ∉ nms acc := fun h => by
      unfold nms at nd
      rw [List.map_append, List.map_cons, List.nodup_append] at nd
      exact nd.2.2 _ h _ List.mem_cons_self rfl
    have e : hput acc r.1 r.2 = acc ++ [r] := by
      unfold hput
      rw [if_neg fun z => hn (any_iff.mp z)]
    rw [e]
    have ea : acc ++ r :: rs = (acc ++ [r]) ++ rs := by simp
    exact dc_rows st (by rw [← ea]; exact nd) (by rw [← ea]; exact q)
theorem rat_neg {q : Rat} : (decide (q.num < 0)) = decide (q < 0) := by
  refine decide_eq_decide.mpr ⟨fun h => ?_, fun h => ?_⟩
  · exact Rat.not_le.mp fun z => absurd (Rat.num_nonneg.mpr z) (by omega)
  · have := Rat.not_le.mpr h
    rw [← Rat.num_nonneg] at this
    omega
theorem rat_zero {q : Rat} : q.num = 0 ↔ q = 0 := Rat.num_eq_zero
theorem p_passed {D : Nat} {rs : List (Str × Rat)} {g t : Str} {q : Rat} {R : Xd → Prop} {Q : PyData → Prop} (hD0 : 0 < D) (h9 : D < 2 ^ 400) (G : Good D rs) (ng : Nm g) (nt : Nm t) (q0 : 0 < q) (q1 : q ≤ 1) (mq : Mu D q)
    (h1 : g = t → R ⟨eNoShare, []⟩) (h2 : g ≠ t → val rs g < q → R ⟨eNoShare, []⟩) (h3 : g ≠ t → q ≤ val rs g → ∀ ss, Mv D rs g t q ss → (12 < ss.length → R ⟨eNoShare, []⟩) ∧ (ss.length ≤ 12 → Q (hD ss))) :
    W_passed [hD rs, .str g, .str t, frD q] R Q := by
  unfold W_passed
  refine ⟨rfl, ?_⟩
  refine aSeq_of ?_
  refine p_name ng ⟨fun e => (nomatch e), fun _ => p_name nt ⟨fun e => (nomatch e), fun _ => ?_⟩⟩
  refine ⟨Str, _, _, g, t, rfl, rfl, by decide, fun e => ?_, fun e => ?_⟩
  · have e' : (false ^^ decide (g = t)) = true := e
    rw [Bool.false_xor, decide_eq_true_eq] at e'
    exact ⟨fun _ => h1 e', fun e => (nomatch e)⟩
  have e' : (false ^^ decide (g = t)) = false := e
  rw [Bool.false_xor, decide_eq_false_iff_not] at e'
  refine p_frac q0 q1 ⟨fun e => (nomatch e), fun _ => ?_⟩
  refine gNext_seq ?_
  have hl : (rs.map rwD).length < sizeLine := by rw [List.length_map, sizeLine_eq]; exact Nat.lt_of_le_of_lt G.len (by decide)
  refine ⟨hl, dc_rows (acc := []) (fun r acc K h => ⟨rfl, fun _ => h, fun e => (nomatch e)⟩) G.nd ?_⟩
  rw [List.nil_append]
  refine gx_seq ?_
  have vg := G.val1 g
  have vt := G.val1 t
  have gd : ∀ (rs : List (Str × Rat)) (s : Str), (dVal (kvD rs) (.inr s)).getD (.tuple [.int 0, .int 1]) = frD (val rs s) := fun rs s => dval_kv
  show W_rest [(dVal (kvD rs) (.inr g)).getD (.tuple [.int 0, .int 1]), frD q] _
  rw [gd]
  refine p_rest (bt_of hD0 h9 vg.2.2 vg.1 vg.2.1) (bt_of hD0 h9 mq (by grind) q1) ?_
  refine gx_seq ?_
  refine ⟨_, atI_two.1, fun e => ?_, fun e => ?_⟩
  · have e2 : decide ((val rs g - q).num < 0) = true := e
    rw [rat_neg, decide_eq_true_eq] at e2
    exact h2 e' (by grind)
  have e2 : decide ((val rs g - q).num < 0) = false := e
  rw [rat_neg, decide_eq_false_iff_not] at e2
  have le : q ≤ val rs g := by grind
  refine gNext_seq ?_
  have P : Pre rs g t q := ⟨G.nd, G.pos, e', q0, le⟩
  have hg : g ∈ nms rs := val_in (by grind)
  refine ⟨by rw [len_kv, sizeLine_eq]; exact Nat.lt_of_le_of_lt G.len (by decide), ?_⟩
  rw [dput_kv]
  refine gx_seq ?_
  have vt' : val (hput rs g (val rs g - q)) t = val rs t := by rw [val_hput, if_neg fun z => e' z.symm]
  have l1 : (hput rs g (val rs g - q)).length = rs.length := len_hput_in hg
  show W_sum [(dVal (kvD (hput rs g (val rs g - q))) (.inr t)).getD (.tuple [.int 0, .int 1]), frD q] _
  rw [gd]
  refine p_sum (bt_of hD0 h9 (by rw [vt']; exact vt.2.2) (by rw [vt']; exact vt.1) (by rw [vt']; exact vt.2.1)) (bt_of hD0 h9 mq (by grind) q1) ?_
  refine ⟨by rw [len_kv, sizeLine_eq, l1]; exact Nat.lt_of_le_of_lt G.len (by decide), ?_⟩
  rw [dput_kv]
  refine gx_seq ?_
  obtain ⟨ss, hs, hmv, hlen⟩ := sorted_mv G nt mq P
  have k3 := h3 e' le ss hmv
  -- the end, whatever is left out
  have fin : ∀ (l : List (Str × Rat)) (v5 v6 v7 : AV), l = mv0 rs g t q → aSeq (xIf (Vc.aT (Vc.aOp Vc.gGt (aLenM 4) (Vc.aC c__MOST_HOLDERS))) (xRaise eNoShare) (xC Vc.aNext) R) (xC (Vc.aRet (Vc.aR Vc.gTuple (Vc.aNS (aSortIt 4)))) R) { nx := fun _ => false = false ∧ Q .none, rt := Q } [.d (hD rs), .d (.str g), .d (.str t), .d (frD q), .m (kvD l), v5, v6, v7] := by
    rintro l v5 v6 v7 rfl
    refine aSeq_of ?_
    refine ⟨fun e => ?_, fun e => ?_⟩
    · have e3 : decide ((12 : Int) < ((kvD (mv0 rs g t q)).length : Int)) = true := e
      rw [decide_eq_true_eq, len_kv] at e3
      exact k3.1 (by omega)
    · have e3 : decide ((12 : Int) < ((kvD (mv0 rs g t q)).length : Int)) = false := e
      rw [decide_eq_false_iff_not, len_kv] at e3
      refine ⟨Rw, inferInstance, inferInstance, (mv0 rs g t q).map enc, ?_, by decide, .inl ?_, ?_⟩
      · unfold kvD
        rw [List.map_map, List.map_map]
        rfl
      · intro x hx
        obtain ⟨r, _, rfl⟩ := List.mem_map.mp hx
        exact ⟨_, _, rfl⟩
      · rw [hs]
        exact k3.2 (by omega)
  refine ⟨_, atI_two.1, Int, _, _, (val rs g - q).num, 0, rfl, rfl, by decide, fun e => ?_, fun e => ?_⟩
  · have e3 : (false ^^ decide ((val rs g - q).num = 0)) = true := e
    rw [Bool.false_xor, decide_eq_true_eq, rat_zero] at e3
    refine ⟨dval_some (by rw [nms_hput, nms_hput, if_pos hg]; split; exact hg; exact List.mem_append_left _ hg), ?_⟩
    rw [ddrop_kv]
    refine fin _ _ _ _ ?_
    unfold mv0
    dsimp only
    rw [if_pos e3]
  · have e3 : (false ^^ decide ((val rs g - q).num = 0)) = false := e
    rw [Bool.false_xor, decide_eq_false_iff_not, rat_zero] at e3
    refine fin _ _ _ _ ?_
    unfold mv0
    dsimp only
    rw [if_neg e3]
end K28

set_option Elab.async false
set_option linter.all false
set_option maxRecDepth 100000
set_option maxHeartbeats 1000000
/-! Steps of conditions, by their heads. -/
namespace Vc
open PySem PySem.Spec L2 PySem.W Lh TL
section
variable {En : AEnds} {a : Sg} {i : Nat} {x : PyData} {Q : PyData → Prop} {rt : PyData → Prop} {bk ct nx : Sg → Prop}
theorem gt_set {fe : AE} (h : fe a fun x => En.nx (a.set i (.d x))) : aSet i fe En a := h
theorem gt_setC (h : En.nx (a.set i (.d x))) : aSet i (aC x) En a := h
theorem gt_c (h : Q x) : aC x a Q := h
theorem gt_v {j : Nat} {y : PyData} (e : a[j]? = some (.d y)) (h : Q y) : aV j a Q := by
  unfold aV
  rw [e]
  exact h
theorem gt_sL {j : Nat} {xs : List PyData} {F : Bool → List PyData → Prop} (e : a[j]? = some (.d (.list xs))) (h : F false xs) : aS j a F := by
  unfold aS
  rw [e]
  exact h
theorem gt_sT {j : Nat} {xs : List PyData} {F : Bool → List PyData → Prop} (e : a[j]? = some (.d (.tuple xs))) (h : F true xs) : aS j a F := by
  unfold aS
  rw [e]
  exact h
theorem gt_sl {j : Nat} {xs : List PyData} {F : Bool → List PyData → Prop} (e : a[j]? = some (.l xs)) (h : F false xs) : aS j a F := by
  unfold aS
  rw [e]
  exact h
theorem gt_nx (h : nx a) : (AEnds.mk nx rt bk ct).nx a := h
theorem gt_ret {fe : AE} (h : fe a rt) : aRet fe (AEnds.mk nx rt bk ct) a := h
theorem gt_if {t : AT} {s u : AS} (h : t a fun b => (b = true → s En a) ∧ (b = false → u En a)) : aIfS t s u En a := h
end
end Vc

set_option Elab.async false
set_option linter.all false
set_option maxRecDepth 100000
set_option maxHeartbeats 400000
set_option exponentiation.threshold 3000
namespace K28
open PySem PySem.Spec L2 PySem.W Lh TL Vc Hold
section
variable {D : Nat} {rs : List (Str × Rat)} {g t : Str} {q : Rat}
theorem w_tried {Q : PyData → Prop} (hD0 : 0 < D) (h9 : D < 2 ^ 400) (G : Good D rs) (ng : Nm g) (nt : Nm t) (q0 : 0 < q) (q1 : q ≤ 1) (mq : Mu D q)
    (h1 : g = t → Q .none) (h2 : g ≠ t → val rs g < q → Q .none) (h3 : g ≠ t → q ≤ val rs g → ∀ ss, Mv D rs g t q ss → (12 < ss.length → Q .none) ∧ (ss.length ≤ 12 → Q (hD ss))) :
    W_law_tried [hD rs, .str g, .str t, frD q] Q := by
  unfold W_law_tried
  refine ⟨rfl, ?_⟩
  refine aSeq_of (gt_setC (gx_seq ?_))
  show W_passed [hD rs, .str g, .str t, frD q] _ _
  refine p_passed hD0 h9 G ng nt q0 q1 mq (fun e => ?_) (fun e k => ?_) fun e k ss hs => ⟨fun l => ?_, fun l => ?_⟩
  · exact ⟨true, rfl, fun _ => h1 e, fun e => nomatch e⟩
  · exact ⟨true, rfl, fun _ => h2 e k, fun e => nomatch e⟩
  · exact ⟨true, rfl, fun _ => (h3 e k ss hs).1 l, fun e => nomatch e⟩
  · exact (h3 e k ss hs).2 l
/-- a filter by names -/
theorem val_filter {α : Type} [DecidableEq α] (f : α → Bool) {x : α} : ∀ {rs : List (α × Rat)}, val (rs.filter fun r => f r.1) x = if f x = true then val rs x else 0
  | [] => by
    show (0 : Rat) = if _ then 0 else 0
    rw [ite_self]
  | r :: rs => by
    by_cases e : f r.1 = true
    · rw [List.filter_cons_of_pos (p := fun r : α × Rat => f r.1) e, val_cons, val_cons, val_filter f]
      by_cases z : r.1 = x
      · rw [if_pos z, if_pos z, if_pos (z ▸ e)]
      · rw [if_neg z, if_neg z]
    · rw [List.filter_cons_of_neg (p := fun r : α × Rat => f r.1) e, val_filter f, val_cons]
      by_cases z : r.1 = x
      · rw [if_neg (fun y => e (z ▸ y)), if_neg (fun y => e (z ▸ y))]
      · rw [if_neg z]
theorem hD_eq {rs : List (Str × Rat)} : hD rs = .tuple ((rs.map enc).map (Datum.toD (α := Rw))) := by
  unfold hD
  rw [List.map_map]
  rfl
theorem rise_ext {rs ss : List (Str × Rat)} (h1 : (nms rs).Pairwise ltS) (h2 : (nms ss).Pairwise ltS) (p1 : ∀ r ∈ rs, 0 < r.2) (p2 : ∀ r ∈ ss, 0 < r.2) (h : ∀ s, val rs s = val ss s) : rs = ss :=
  ext (lt := ltS) (fun a h => by
    have h : DatumOrd.lt a a = true := h
    rw [Lin.irr] at h
    cases h) (fun a b => lin_asy) h1 h2 p1 p2 h
theorem Mv.eq {D E : Nat} {rs ps ss us : List (Str × Rat)} {g t g' t' : Str} {q q' : Rat} (h : Mv D rs g t q ss) (k : Mv E ps g' t' q' us) (e : ∀ s, val ss s = val us s) : ss = us := rise_ext h.rise k.rise h.pos k.pos e
theorem w_others {rs ss : List (Str × Rat)} {g t : Str} {Q : PyData → Prop} (l1 : rs.length ≤ 12) (l2 : ss.length ≤ 12) (h1 : (nms rs).Pairwise ltS) (h2 : (nms ss).Pairwise ltS) (p1 : ∀ r ∈ rs, 0 < r.2) (p2 : ∀ r ∈ ss, 0 < r.2) (h : ∀ s, s ≠ g → s ≠ t → val rs s = val ss s) (q : Q (.bool true)) :
    W_law_others_stay [hD rs, hD ss, .list [.str g, .str t]] Q := by
  unfold W_law_others_stay
  refine ⟨rfl, ?_⟩
  rw [hD_eq, hD_eq]
  have hl : ∀ rs : List (Str × Rat), rs.length ≤ 12 → ((rs.map enc).map (Datum.toD (α := Rw))).length ≤ sizeLine := fun rs h => by rw [List.length_map, List.length_map, sizeLine_eq]; exact Nat.le_trans h (by decide)
  have lc : ∀ (us : List Rw) (v3 : AV) (R : List PyData → Prop), R ((us.filter fun z => !mem z.1 [g, t]).map (Datum.toD (α := Rw))) →
      lcW (agV 4) (aT (aOpS (gIn true) (aIx (aS 4) (aC (.int 0))) (aS 2))) (aV 4) [.d (.tuple ((rs.map enc).map (Datum.toD (α := Rw)))), .d (.tuple ((ss.map enc).map (Datum.toD (α := Rw)))), .d (.list [.str g, .str t]), v3, .no] (us.map (Datum.toD (α := Rw))) R := fun us v3 R q => by
    refine glc_filt (α := Rw) (fun z => !mem z.1 [g, t]) (fun z _ R N h k => ?_) q
    refine ⟨_, atI_two.1, gt_sL rfl ?_⟩
    show gIn true (Datum.toD (α := Str) z.1) false ([g, t].map (Datum.toD (α := Str))) _
    exact gnin_of (by decide) ⟨h, k⟩
  refine aSeq_of ?_
  refine ⟨hl rs l1, ?_⟩
  refine lc _ _ _ ?_
  refine ⟨hl ss l2, ?_⟩
  refine lc _ _ _ ?_
  have e : (rs.map enc).filter (fun z : Rw => !mem z.1 [g, t]) = (ss.map enc).filter (fun z : Rw => !mem z.1 [g, t]) := by
    rw [List.filter_map, List.filter_map]
    congr 1
    have f : ∀ rs : List (Str × Rat), rs.filter ((fun z : Rw => !mem z.1 [g, t]) ∘ enc) = rs.filter (fun r => (fun s => !mem s [g, t]) r.1) := fun rs => rfl
    rw [f, f]
    have sub : ∀ rs : List (Str × Rat), (nms rs).Pairwise ltS → (nms (rs.filter (fun r => (fun s => !mem s [g, t]) r.1))).Pairwise ltS := fun rs h => h.sublist (List.filter_sublist.map _)
    refine rise_ext (sub rs h1) (sub ss h2) (fun r hr => p1 r (List.mem_filter.mp hr).1) (fun r hr => p2 r (List.mem_filter.mp hr).1) fun s => ?_
    rw [val_filter (fun s => !mem s [g, t]), val_filter (fun s => !mem s [g, t])]
    split
    · rename_i hs
      have hm : mem s [g, t] = false := by simpa using hs
      have hm : decide (s ∈ [g, t]) = false := hm
      rw [decide_eq_false_iff_not] at hm
      exact h s (fun z => hm (by rw [z]; exact List.mem_cons_self)) (fun z => hm (by rw [z]; exact List.mem_cons_of_mem _ List.mem_cons_self))
    · rfl
  rw [e]
  refine geq_of (α := List Rw) (by decide) ?_
  rw [decide_eq_true rfl]
  exact q
theorem w_held {rs : List (Str × Rat)} {who : Str} {Q : PyData → Prop} (h1 : who ∈ nms rs → Q (frD (val rs who))) (h2 : who ∉ nms rs → Q .none) : W_held [hD rs, .str who] Q := by
  unfold W_held
  refine ⟨rfl, ?_⟩
  refine for_of (fun ys a => ∃ (rest : List (Str × Rat)) (v2 v3 : AV), ys = rest.map rwD ∧ a = [.d (hD rs), .d (.str who), v2, v3] ∧ (who ∈ nms rest → Q (frD (val rest who))) ∧ (who ∉ nms rest → Q .none)) ?_ ?_ ⟨rs, _, _, rfl, rfl, h1, h2⟩
  · rintro x xs' _ X ⟨rest, v2, v3, e, rfl, k1, k2⟩ hX
    cases rest with
    | nil => cases e
    | cons r rest =>
      rw [List.map_cons] at e
      injection e with e1 e2
      subst e1 e2
      refine ⟨rfl, Str, _, _, r.1, who, rfl, rfl, by decide, fun e => ?_, fun e => ?_⟩
      · have e' : (false ^^ decide (r.1 = who)) = true := e
        rw [Bool.false_xor, decide_eq_true_eq] at e'
        have := k1 (by rw [nms_cons, e']; exact List.mem_cons_self)
        rw [val_cons, if_pos e'] at this
        exact this
      · have e' : (false ^^ decide (r.1 = who)) = false := e
        rw [Bool.false_xor, decide_eq_false_iff_not] at e'
        refine hX _ ⟨rest, _, _, rfl, rfl, fun h => ?_, fun h => k2 ?_⟩
        · have := k1 (by rw [nms_cons]; exact List.mem_cons_of_mem _ h)
          rw [val_cons, if_neg e'] at this
          exact this
        · rw [nms_cons, List.mem_cons, not_or]
          exact ⟨fun z => e' z.symm, h⟩
  · rintro _ ⟨rest, v2, v3, e, rfl, k1, k2⟩
    cases rest with
    | cons r rest => cases e
    | nil => exact k2 (by simp)
theorem w_sole {s : Str} {Q : PyData → Prop} (q : Q (hD [(s, 1)])) : W_sole [.str s] Q := by
  unfold W_sole
  exact ⟨rfl, q⟩
/-- divided by a number -/
theorem norm_div {a : Rat} {k : Nat} (hk : k ≠ 0) : Rat.normalize a.num (a.den * k) (Nat.mul_ne_zero a.den_nz hk) * (k : Rat) = a := by
  rw [Rat.normalize_eq_mkRat, Rat.mkRat_eq_div, Rat.natCast_mul]
  have h0 : (k : Rat) ≠ 0 := fun e => hk (by exact_mod_cast e)
  have h : (a.den : Rat) ≠ 0 := fun e => a.den_nz (by exact_mod_cast e)
  have e := num_den a
  rw [← e]
  grind
theorem wl_lowI {n : Int} {d : Nat} {Q : PyData → Prop} (hn : 0 ≤ n) (h0 : d ≠ 0) (h9 : d < 2 ^ 2000) (q : Q (frD (Rat.normalize n d h0))) : W_law_lowest [.int n, .int d] Q := by
  obtain ⟨m, rfl⟩ := Int.eq_ofNat_of_zero_le hn
  exact wl_low h0 h9 q
theorem w_part {a : Rat} {k : Nat} {Q : PyData → Prop} (hk : k ≠ 0) (h9 : k < 2 ^ 1000) (a0 : 0 < a) (hb : Bt a) (q : ∀ r : Rat, r * (k : Rat) = a → Q (frD r)) : W_law_lowest [.int a.num, .int ((a.den : Int) * (k : Int))] Q := by
  show W_law_lowest [.int a.num, .int ((a.den * k : Nat) : Int)] Q
  refine wl_lowI (Int.le_of_lt (rat_pos a0)) (Nat.mul_ne_zero a.den_nz hk) ?_ (q _ (norm_div hk))
  have h1 : a.den * k ≤ 2 ^ 450 * 2 ^ 1000 := Nat.mul_le_mul (Nat.le_of_lt hb.2) (Nat.le_of_lt h9)
  have h2 : (2 : Nat) ^ 450 * 2 ^ 1000 < 2 ^ 2000 := by decide
  omega
theorem part_facts {D k : Nat} {a r : Rat} (hk : 0 < k) (e : r * (k : Rat) = a) (a0 : 0 < a) (m : Mu D a) : 0 < r ∧ r ≤ a ∧ Mu (D * k) r := by
  have hk1 : (1 : Rat) ≤ (k : Rat) := by exact_mod_cast hk
  have r0 : 0 < r := by
    refine Rat.not_le.mp fun z => ?_
    have := Rat.mul_le_mul_of_nonneg_right z (show (0 : Rat) ≤ k by grind)
    grind
  refine ⟨r0, ?_, ?_⟩
  · have := Rat.mul_le_mul_of_nonneg_left hk1 (Rat.le_of_lt r0)
    grind
  · obtain ⟨z, hz⟩ := m
    exact ⟨z, by rw [← hz, ← e, Rat.natCast_mul]; grind⟩
theorem hD_sh {rs : List (Str × Rat)} (h : ∀ r ∈ rs, Nm r.1) : SeqAt.shaped (hD rs) = true := by
  refine (Sh.tuple (k := 3) fun d hd => ?_).shaped (by decide)
  obtain ⟨r, hr, rfl⟩ := List.mem_map.mp hd
  refine Sh.tuple (k := 2) fun d hd => ?_
  simp only [List.mem_cons, List.not_mem_nil, or_false] at hd
  rcases hd with rfl | rfl
  · exact .str (nm_txt (h r hr) _ rfl).2
  · refine Sh.tuple (k := 1) fun d hd => ?_
    simp only [List.mem_cons, List.not_mem_nil, or_false] at hd
    rcases hd with rfl | rfl <;> exact .int _
theorem eqD_of {rs : List (Str × Rat)} {n : Bool} {Q : PyData → Prop} (h : ∀ r ∈ rs, Nm r.1) (q : Q (.bool (n ^^ true))) : gEqD n (hD rs) (hD rs) Q := by
  refine ⟨hD_sh h, hD_sh h, ?_⟩
  have e : PyData.eqv (hD rs) (hD rs) = true := by
    rw [hD_eq]
    exact (Datum.eqv (⟨rs.map enc⟩ : Tup Rw) ⟨rs.map enc⟩).trans (decide_eq_true rfl)
  rw [e]
  exact q
end
end K28

set_option Elab.async false
set_option linter.all false
set_option maxRecDepth 100000
set_option maxHeartbeats 400000
set_option exponentiation.threshold 3000
namespace K28
open PySem PySem.Spec L2 PySem.W Lh TL Vc Hold
theorem Good.up {D m : Nat} {rs : List (Str × Rat)} (G : Good D rs) : Good (D * m) rs := ⟨G.rise, G.pos, G.one, fun r h => (G.mu r h).up, G.nm, G.len⟩
section
variable {D : Nat} {rs ss : List (Str × Rat)} {g t : Str} {q : Rat}
theorem w_halves {Q : PyData → Prop} (hD0 : 0 < D) (h9 : D * 2 < 2 ^ 400) (G : Good D rs) (ng : Nm g) (nt : Nm t) (q0 : 0 < q) (q1 : q ≤ 1) (mq : Mu D q) (ne : g ≠ t) (le : q ≤ val rs g) (M : Mv D rs g t q ss) (hl : ss.length ≤ 12) (k : Q (.bool true)) :
    W_law_halves [hD rs, .str g, .str t, frD q] Q := by
  unfold W_law_halves
  have hq9 := bt_of (D := D) hD0 (by omega) mq (by grind) q1
  refine ⟨rfl, ?_⟩
  refine aSeq_of ?_
  refine ⟨_, atI_two.1, _, atI_two.2, ?_, ?_⟩
  · exact mulx_ok (a := 450) (b := 2) (by rw [Int.natAbs_natCast]; exact hq9.2) (by decide) (by decide)
  refine w_part (k := 2) (by decide) (by decide) q0 hq9 fun r hr => ?_
  obtain ⟨r0, rl, rm⟩ := part_facts (k := 2) (by decide) hr q0 mq
  have hr2 : r + r = q := by
    rw [← hr]
    have : ((2 : Nat) : Rat) = 2 := rfl
    rw [this]
    grind
  have G2 : Good (D * 2) rs := G.up
  refine gx_seq ?_
  refine gt_set ?_
  show W_law_tried [hD rs, .str g, .str t, frD r] _
  refine w_tried (by omega) h9 G2 ng nt r0 (by grind) rm (fun e => absurd e ne) (fun _ h => ?_) fun _ h s1 M1 => ⟨fun l => ?_, fun l => ?_⟩
  · grind
  · refine gx_seq ?_
    have l12 : rs.length = 12 := by have := M1.l1; have := G.len; omega
    have el : (((rs.map rwD).length : Nat) : Int) = 12 := by rw [List.length_map, l12]; rfl
    refine ⟨fun _ => ⟨Int, _, _, (((rs.map rwD).length : Nat) : Int), 12, rfl, rfl, by decide, fun _ => k, fun e => ?_⟩, fun e => (nomatch e)⟩
    rw [el] at e
    exact absurd e (by decide)
  · refine gx_seq ?_
    refine ⟨fun e => (nomatch e), fun _ => ⟨fun e => (nomatch e), fun _ => ?_⟩⟩
    refine gNext_seq ?_
    refine ⟨fun e => (nomatch e), fun _ => ?_⟩
    have G1 := M1.good l
    have e1 := fun x => M1.v x
    show W_law_tried [hD s1, .str g, .str t, frD r] _
    refine w_tried (by omega) h9 G1 ng nt r0 (by grind) rm (fun e => absurd e ne) (fun _ h => ?_) fun _ h s2 M2 => ?_
    · rw [e1, if_pos rfl] at h
      grind
    have es : s2 = ss := M2.eq M fun x => by
      rw [M2.v, M.v, e1, e1, e1, if_pos rfl]
      by_cases h1 : x = g
      · rw [if_pos h1, if_pos h1]
        grind
      · rw [if_neg h1, if_neg h1]
        by_cases h2 : x = t
        · rw [if_pos h2, if_pos h2, if_neg fun z => ne z.symm, if_pos rfl]
          grind
        · rw [if_neg h2, if_neg h2, if_neg h1, if_neg h2]
    subst es
    refine ⟨fun l => absurd hl (by omega), fun _ => ?_⟩
    show W_law_tried [hD rs, .str g, .str t, frD q] _
    refine w_tried hD0 (by omega) G ng nt q0 q1 mq (fun e => absurd e ne) (fun _ h => ?_) fun _ h s3 M3 => ?_
    · grind
    have es : s3 = s2 := M3.eq M fun x => by rw [M3.v, M.v]
    subst es
    refine ⟨fun l => absurd hl (by omega), fun _ => ?_⟩
    exact eqD_of M.nm k
theorem w_step {names : PyData} {Q : PyData → Prop} (hD0 : 0 < D) (h9 : D * 2 < 2 ^ 400) (G : Good D rs) (ng : Nm g) (nt : Nm t) (q0 : 0 < q) (q1 : q ≤ 1) (mq : Mu D q) (ne : g ≠ t) (le : q ≤ val rs g) (M : Mv D rs g t q ss) (hl : ss.length ≤ 12) (k : Q (.bool true)) :
    W_law_step_right [hD rs, names, hD ss, .tuple [.str g, .str t, frD q]] Q := by
  unfold W_law_step_right
  have Gs := M.good hl
  have hg : g ∈ nms rs := val_in (by grind)
  refine ⟨rfl, ?_⟩
  refine aSeq_of ?_
  refine ⟨rfl, ?_⟩
  refine gx_seq ?_
  refine p_isH hD0 (by omega) Gs ⟨fun e => (nomatch e), fun _ => ?_⟩
  refine w_others G.len hl G.rise M.rise G.pos M.pos (fun s h1 h2 => by rw [M.v, if_neg h1, if_neg h2]) ⟨fun e => (nomatch e), fun _ => ?_⟩
  refine gNext_seq ?_
  show W_passed [hD ss, .str t, .str g, frD q] _ _
  have vt : val ss t = val rs t + q := by rw [M.v, if_neg fun z => ne z.symm, if_pos rfl]
  have vt0 := (G.val1 t).1
  refine p_passed hD0 (by omega) Gs nt ng q0 q1 mq (fun e => absurd e.symm ne) (fun _ h => ?_) fun _ h s2 M2 => ?_
  · grind
  have es : s2 = rs := rise_ext M2.rise G.rise M2.pos G.pos fun x => by
    have e1 := M2.v x
    have e2 := M.v x
    have e3 := M.v g
    rw [if_pos rfl] at e3
    by_cases h1 : x = t
    · rw [if_pos h1] at e1
      rw [e1, vt, h1]
      grind
    · rw [if_neg h1] at e1 e2
      by_cases h2 : x = g
      · rw [if_pos h2] at e1
        rw [e1, e3, h2]
        grind
      · rw [if_neg h2] at e1 e2
        rw [e1, e2]
  subst es
  refine ⟨fun l => absurd G.len (by omega), fun _ => ?_⟩
  have eq1 : ∀ R : PyData → Prop, R (.bool false) → gEq true (hD s2) (hD s2) R := fun R r => by
    rw [hD_eq]
    refine gne_of (α := Tup Rw) (x := ⟨s2.map enc⟩) (y := ⟨s2.map enc⟩) (by decide) ?_
    rw [decide_eq_true rfl]
    exact r
  refine gt_v (y := hD s2) rfl (eq1 _ ?_)
  refine ⟨fun e => (nomatch e), fun _ => ?_⟩
  refine w_halves hD0 h9 G ng nt q0 q1 mq ne le M hl ⟨fun e => (nomatch e), fun _ => ?_⟩
  refine aNext_of ?_
  show W_held [hD s2, .str g] _
  refine w_held (fun _ => ?_) fun z => absurd hg z
  refine gt_v (y := frD q) rfl (gne_of (α := Int × Int) (x := ((val s2 g).num, ((val s2 g).den : Int))) (y := (q.num, (q.den : Int))) (by decide) ?_)
  by_cases e : val s2 g = q
  · rw [e, decide_eq_true rfl]
    refine ⟨fun e => (nomatch e), fun _ => ?_⟩
    show W_held [hD ss, .str g] _
    have v0 : val ss g = 0 := by rw [M.v, if_pos rfl]; grind
    refine w_held (fun h => ?_) fun _ => k
    obtain ⟨r, hr, _, er⟩ := val_get h
    have := M.pos r hr
    grind
  · have : decide (((val s2 g).num, ((val s2 g).den : Int)) = (q.num, (q.den : Int))) = false := decide_eq_false fun z => e (by
      injection z with z1 z2
      exact Rat.ext z1 (by exact_mod_cast z2))
    rw [this]
    exact ⟨fun _ => k, fun e => (nomatch e)⟩
end
end K28

set_option Elab.async false
set_option linter.all false
set_option maxRecDepth 100000
set_option maxHeartbeats 400000
set_option exponentiation.threshold 3000
namespace K28
open PySem PySem.Spec L2 PySem.W Lh TL Vc Hold
theorem w_frac {Q : PyData → Prop} (q : ∀ (m : Nat) (r : Rat), 0 < m → m ≤ 12 → 0 < r → r ≤ 1 → Mu m r → Q (frD r)) : W_law_fraction [] Q := by
  unfold W_law_fraction
  refine ⟨rfl, ?_⟩
  refine ⟨rfl, 2, rfl, by decide, by decide, fun k k0 k4 => ?_⟩
  obtain ⟨y, e, hy⟩ := atI_nat (xs := [PyData.int 4, .int 12]) k0 k4
  refine ⟨y, e, ?_⟩
  obtain ⟨m, h1, h2, rfl⟩ : ∃ m : Nat, 1 ≤ m ∧ m ≤ 12 ∧ y = .int m := by
    simp only [List.mem_cons, List.not_mem_nil, or_false] at hy
    rcases hy with rfl | rfl
    · exact ⟨4, by decide, by decide, rfl⟩
    · exact ⟨12, by decide, by decide, rfl⟩
  have hb : (12 : Int) < 2 ^ 1000 := by decide
  refine ⟨rfl, m, rfl, by omega, by omega, fun k k0 k4 => ?_⟩
  refine ⟨rfl, 1 + k, rfl, by omega, by omega, fun j j0 j4 => ?_⟩
  obtain ⟨b, hb⟩ : ∃ b : Nat, 1 + k = (b : Int) := ⟨(1 + k).toNat, by omega⟩
  obtain ⟨u, hu⟩ : ∃ u : Nat, 1 + j = (u : Int) := ⟨(1 + j).toNat, by omega⟩
  show W_law_lowest [.int (1 + j), .int (1 + k)] Q
  rw [hb, hu]
  have b0 : b ≠ 0 := by omega
  have h0 : (b : Rat) ≠ 0 := fun e => b0 (by exact_mod_cast e)
  have e : Rat.normalize (u : Int) b b0 * (b : Rat) = (u : Rat) := by
    rw [Rat.normalize_eq_mkRat, Rat.mkRat_eq_div, Rat.intCast_natCast]
    grind
  have ub : (u : Rat) ≤ (b : Rat) := by exact_mod_cast (show u ≤ b by omega)
  have bp : (0 : Rat) < (b : Rat) := by exact_mod_cast (show 0 < b by omega)
  have up : (0 : Rat) < (u : Rat) := by exact_mod_cast (show 0 < u by omega)
  refine wl_low b0 (by omega) (q b _ (by omega) (by omega) ?_ ?_ ⟨u, by rw [e, Rat.intCast_natCast]⟩)
  · refine Rat.not_le.mp fun z => ?_
    have := Rat.mul_le_mul_of_nonneg_right z (Rat.le_of_lt bp)
    grind
  · refine Rat.not_lt.mp fun z => ?_
    have := Rat.mul_lt_mul_of_pos_right z bp
    grind
theorem lc_names {x0 x1 : AV} {x2 x3 : PyData} {v4 v5 v6 v8 v9 v10 v11 v12 v13 v14 v15 v16 : AV} {rs : List (Str × Rat)} {R : List PyData → Prop} (q : R ((nms rs).map .str)) :
    lcW (agV 7) aYes (aIx (aS 7) (aC (.int 0))) [x0, x1, .d x2, .d x3, v4, v5, v6, .no, v8, v9, v10, v11, v12, v13, v14, v15, v16] (rs.map rwD) R := by
  refine lc_map (fun x => match x with | .tuple [a, _] => a | _ => .none) (fun x hx R N r => ?_) ?_
  · obtain ⟨y, hy, rfl⟩ := List.mem_map.mp hx
    exact ⟨fun _ => ⟨_, atI_two.1, r⟩, fun e => nomatch e⟩
  · have en : ((rs.map rwD).map fun x => match x with | .tuple [a, _] => a | _ => .none) = (nms rs).map .str := by
      rw [List.map_map, List.map_map]
      rfl
    rw [en]
    exact q
theorem w_pickN {rs : List (Str × Rat)} {D : Nat} (G : Good D rs) {Q : PyData → Prop} (q : ∀ s ∈ nms rs, Nm s → Q (.str s)) : W_law_pick [.list ((nms rs).map .str)] Q := by
  have h1 : 1 ≤ rs.length := by
    cases rs with
    | nil => have := G.one; change (0 : Rat) = 1 at this; grind
    | cons r rs => rw [List.length_cons]; omega
  refine w_pick (by rw [List.length_map, List.length_map]; omega) (by rw [List.length_map, List.length_map]; have := G.len; omega) fun y hy => ?_
  obtain ⟨s, hs, rfl⟩ := List.mem_map.mp hy
  obtain ⟨r, hr, e⟩ := List.mem_map.mp hs
  exact q s hs (e ▸ G.nm r hr)
theorem w_tried2 {D : Nat} {rs : List (Str × Rat)} {g t : Str} {q : Rat} {Q : PyData → Prop} (hD0 : 0 < D) (h9 : D < 2 ^ 400) (G : Good D rs) (ng : Nm g) (nt : Nm t) (q0 : 0 < q) (q1 : q ≤ 1) (mq : Mu D q)
    (hn : (g = t ∨ val rs g < q ∨ 12 ≤ rs.length) → Q .none) (hs : g ≠ t → q ≤ val rs g → ∀ ss, Mv D rs g t q ss → ss.length ≤ 12 → Q (hD ss)) : W_law_tried [hD rs, .str g, .str t, frD q] Q :=
  w_tried hD0 h9 G ng nt q0 q1 mq (fun e => hn (.inl e)) (fun _ h => hn (.inr (.inl h))) fun e h ss M => ⟨fun l => hn (.inr (.inr (by have := M.l1; omega))), fun l => hs e h ss M l⟩
theorem body2 {E : Nat} {rs ss : List (Str × Rat)} {g t : Str} {q : Rat} {K : Frag} {n : Nat} {nm4 : PyData} {v4 v7 v8 v9 v12 v13 v14 v15 v16 : AV} {En : AEnds} (G1 : Good E rs) (E0 : 0 < E) (E30 : E < 2 ^ 400) (ng : Nm g) (nt : Nm t) (ne : g ≠ t) (q0 : 0 < q) (q1 : q ≤ 1) (mq : Mu E q) (le : q ≤ val rs g) (MV : Mv E rs g t q ss) (l12 : ss.length ≤ 12)
    (fin : ∀ v12 v13 v14 v15 v16 : AV, En.nx [.s K n, .st, .d nm4, .d (hD ss), v4, .d (.str g), .d (.str t), v7, v8, v9, .d (frD q), .d (hD ss), v12, v13, v14, v15, v16]) :
    (Vc.aSeq (Vc.aSet 12 (Vc.aCallS 1 W_law_pick (Vc.aCons (Vc.aNE (Vc.aLc (Vc.aiT (Vc.aV 3)) (Vc.agV 7) Vc.aYes (Vc.aIx (Vc.aS 7) (Vc.aC (.int 0))) [7])) Vc.aNil)))
    (Vc.aSeq (Vc.aSet 13 (Vc.aCall W_held (Vc.aCons (Vc.aV 3) (Vc.aCons (Vc.aV 12) Vc.aNil))))
    (Vc.aSeq (Vc.aSet 14 (Vc.aAnd (Vc.aOpS (Vc.gIn true) (Vc.aV 12) (Vc.aSE (Vc.aTup (Vc.aCons (Vc.aV 5) (Vc.aCons (Vc.aV 6) Vc.aNil))))) (Vc.aOp Vc.gLt (Vc.aB Vc.gLenA (Vc.aCons (Vc.aV 11) Vc.aNil)) (Vc.aC (.int 12)))))
    (Vc.aSeq (Vc.aIfS (Vc.aTAnd (Vc.aT (Vc.aV 14)) (Vc.aT (Vc.aOp (Vc.gIsN true) (Vc.aCall W_law_tried (Vc.aCons (Vc.aV 3) (Vc.aCons (Vc.aV 12) (Vc.aCons (Vc.aV 6) (Vc.aCons (Vc.aV 13) Vc.aNil))))) (Vc.aC .none))))
    (Vc.aSeq (Vc.aSet 15 (Vc.aCall W_law_tried (Vc.aCons (Vc.aV 11) (Vc.aCons (Vc.aV 12) (Vc.aCons (Vc.aV 6) (Vc.aCons (Vc.aV 13) Vc.aNil))))))
    (Vc.aSeq (Vc.aSet 16 (Vc.aCall (calm W_passed) (Vc.aCons (Vc.aV 3) (Vc.aCons (Vc.aV 12) (Vc.aCons (Vc.aV 6) (Vc.aCons (Vc.aV 13) Vc.aNil))))))
    (Vc.aIfS (Vc.aTOr (Vc.aT (Vc.aOp (Vc.gIsN false) (Vc.aV 15) (Vc.aC .none))) (Vc.aT (Vc.aOp (Vc.gEqD true) (Vc.aV 15) (Vc.aCall W_law_tried (Vc.aCons (Vc.aV 16) (Vc.aCons (Vc.aV 5) (Vc.aCons (Vc.aV 6) (Vc.aCons (Vc.aV 10) Vc.aNil))))))))
    (Vc.aRet (Vc.aC (.bool false)))
    Vc.aNext)))
    Vc.aNext)
    (Vc.aSet 3 (Vc.aV 11)))))) En [.s K n, .st, .d nm4, .d (hD rs), v4, .d (.str g), .d (.str t), v7, v8, v9, .d (frD q), .d (hD ss), v12, v13, v14, v15, v16] := by
  refine aSeq_of ?_
  refine ⟨by rw [List.length_map, sizeLine_eq]; exact Nat.le_trans G1.len (by decide), lc_names ?_⟩
  show W_law_pick [.list ((nms rs).map .str)] _
  refine w_pickN G1 fun u hu nu => ?_
  refine gx_seq ?_
  show W_held [hD rs, .str u] _
  refine w_held (fun _ => ?_) fun z => absurd hu z
  refine gx_seq ?_
  refine gt_set ?_
  refine ⟨Str, inferInstance, inferInstance, u, [g, t], rfl, rfl, by decide, ?_⟩
  by_cases hm : u ∈ [g, t]
  · rw [show mem u [g, t] = true from decide_eq_true hm]
    refine ⟨fun e => (nomatch e), fun _ => ?_⟩
    refine gx_seq ?_
    exact ⟨fun e => (nomatch e), fun _ => ⟨fun e => (nomatch e), fun _ => aNext_of (fin _ _ _ _ _)⟩⟩
  rw [show mem u [g, t] = false from decide_eq_false hm]
  refine ⟨fun _ => ?_, fun e => (nomatch e)⟩
  have ug : u ≠ g := fun z => hm (by rw [z]; exact List.mem_cons_self)
  have ut : u ≠ t := fun z => hm (by rw [z]; exact List.mem_cons_of_mem _ List.mem_cons_self)
  have hw := G1.val1 u
  have hw0 : 0 < val rs u := by
    obtain ⟨r, hr, _, e⟩ := val_get hu
    rw [e]
    exact G1.pos r hr
  have Gs := MV.good l12
  have su : val ss u = val rs u := by rw [MV.v, if_neg ug, if_neg ut]
  have htss : t ∈ nms ss := val_in (by rw [MV.v, if_neg fun z => ne z.symm, if_pos rfl]; have := (G1.val1 t).1; grind)
  refine gx_seq ?_
  by_cases hl11 : ((ss.map rwD).length : Int) < 12
  · refine ⟨fun _ => ?_, fun e => ?_⟩
    · show W_law_tried [hD rs, .str u, .str t, frD (val rs u)] _
      refine w_tried2 E0 (by omega) G1 nu nt hw0 hw.2.1 hw.2.2 (fun _ => ⟨fun e => (nomatch e), fun _ => aNext_of (fin _ _ _ _ _)⟩) fun _ _ s4 M4 l4 => ?_
      refine ⟨fun _ => ?_, fun e => (nomatch e)⟩
      refine aSeq_of ?_
      show W_law_tried [hD ss, .str u, .str t, frD (val rs u)] _
      refine w_tried E0 (by omega) Gs nu nt hw0 hw.2.1 hw.2.2 (fun e => absurd e ut) (fun _ h => ?_) fun _ _ s5 M5 => ?_
      · grind
      have l5 : s5.length ≤ 12 := Nat.le_trans (M5.l2 htss) l12
      refine ⟨fun l => absurd l5 (by omega), fun _ => ?_⟩
      refine gx_seq ?_
      show W_passed [hD rs, .str u, .str t, frD (val rs u)] _ _
      refine p_passed E0 (by omega) G1 nu nt hw0 hw.2.1 hw.2.2 (fun e => absurd e ut) (fun _ h => ?_) fun _ _ s6 M6 => ?_
      · grind
      have e64 : s6 = s4 := M6.eq M4 fun x => by rw [M6.v, M4.v]
      subst e64
      refine ⟨fun l => absurd l4 (by omega), fun _ => ?_⟩
      refine gt_nx ?_
      refine ⟨fun e => (nomatch e), fun _ => ?_⟩
      have G6 := M6.good l4
      have v6g : val s6 g = val rs g := by rw [M6.v, if_neg fun z => ug z.symm, if_neg ne]
      show W_law_tried [hD s6, .str g, .str t, frD q] _
      refine w_tried E0 (by omega) G6 ng nt q0 q1 mq (fun e => absurd e ne) (fun _ h => ?_) fun _ _ s7 M7 => ?_
      · grind
      have e75 : s7 = s5 := M7.eq M5 fun x => by
        have a1 := M7.v x
        have a2 := M5.v x
        have a3 := M6.v x
        have a4 := MV.v x
        have a5 := M6.v t
        have a6 := MV.v t
        rw [if_neg (fun z => ut z.symm : ¬ t = u), if_pos rfl] at a5
        rw [if_neg (fun z => ne z.symm : ¬ t = g), if_pos rfl] at a6
        rw [a1, a2]
        by_cases h1 : x = g
        · have h2 : ¬ x = u := fun z => ug (z.symm.trans h1)
          have h3 : ¬ x = t := fun z => ne (h1.symm.trans z)
          rw [if_pos h1] at a4 ⊢
          rw [if_neg h2, if_neg h3, a4, v6g]
        · rw [if_neg h1] at a4 ⊢
          by_cases h3 : x = t
          · have h2 : ¬ x = u := fun z => ut (z.symm.trans h3)
            rw [if_pos h3, if_neg h2, if_pos h3, a5, a6]
            grind
          · rw [if_neg h3] at a4 ⊢
            rw [if_neg h3]
            by_cases h2 : x = u
            · rw [if_pos h2] at a3 ⊢
              rw [a3, su]
            · rw [if_neg h2, if_neg h3] at a3
              rw [if_neg h2, a3, a4]
      subst e75
      refine ⟨fun l => absurd l5 (by omega), fun _ => ?_⟩
      exact eqD_of M5.nm ⟨fun e => (nomatch e), fun _ => aNext_of (fin _ _ _ _ _)⟩
    · have e : decide (((ss.map rwD).length : Int) < 12) = false := e
      rw [decide_eq_true hl11] at e
      cases e
  · refine ⟨fun e => ?_, fun _ => ⟨fun e => (nomatch e), fun _ => aNext_of (fin _ _ _ _ _)⟩⟩
    have e : decide (((ss.map rwD).length : Int) < 12) = true := e
    rw [decide_eq_false hl11] at e
    cases e
theorem w_law : W_law := by
  intro K n hn
  unfold A_law
  refine aSeq_of ?_
  refine w_names (n := 13) (by decide) fun ns hl nd hnm => ?_
  refine gx_seq ?_
  have hne : 0 < (ns.map PyData.str).length := by rw [List.length_map]; omega
  obtain ⟨s0, ns', rfl⟩ : ∃ s ns', ns = s :: ns' := by
    cases ns with
    | nil => cases hl
    | cons s ns' => exact ⟨s, ns', rfl⟩
  refine ⟨.str s0, atI_zero, ?_⟩
  refine w_sole ?_
  refine gx_seq ?_
  obtain ⟨m, em, m1, m6⟩ : ∃ m : Int, 8 + (if (n : Int) < 22 then (n : Int) else 22) = m ∧ 1 ≤ m ∧ m ≤ 30 :=
    ⟨_, rfl, by split <;> omega, by split <;> omega⟩
  refine ⟨rfl, ?_⟩
  show (-(2 ^ 62) ≤ _ ∧ _ < 2 ^ 62) ∧ (rng 0 (Int.toNat _)).length ≤ lineN ∧ _
  rw [em]
  have hr : (rng 0 m.toNat).length ≤ 30 := by
    show ((List.range _).map _).length ≤ 30
    rw [List.length_map, List.length_range]
    omega
  refine ⟨⟨by omega, by omega⟩, Nat.le_trans hr (by decide), ?_⟩
  refine for_of (fun zs a => ∃ (D : Nat) (rs : List (Str × Rat)) (v4 v5 v6 v7 v8 v9 v10 v11 v12 v13 v14 v15 v16 : AV), a = [.s K n, .st, .d (.list ((s0 :: ns').map .str)), .d (hD rs), v4, v5, v6, v7, v8, v9, v10, v11, v12, v13, v14, v15, v16] ∧ 0 < D ∧ D * 12 ^ zs.length ≤ 12 ^ 30 ∧ Good D rs) ?_ ?_ ?_
  · rintro z zs _ X ⟨D, rs, v4, v5, v6, v7, v8, v9, v10, v11, v12, v13, v14, v15, v16, rfl, hD0, hD9, G⟩ hX
    have hlen := G.len
    rw [List.length_cons] at hD9
    refine agV_of (aSeq_of ?_)
    refine ⟨by rw [List.length_map, sizeLine_eq]; exact Nat.le_trans hlen (by decide), lc_names ?_⟩
    show W_law_pick [.list ((nms rs).map .str)] _
    refine w_pickN G fun g hg ng => ?_
    show W_law_pick [.list ((s0 :: ns').map .str)] _
    refine w_pick hne (by rw [List.length_map, hl]; decide) fun y hy => ?_
    obtain ⟨t, ht, rfl⟩ := List.mem_map.mp hy
    have nt := hnm t ht
    refine gx_seq ?_
    show W_held [hD rs, .str g] _
    refine w_held (fun _ => ?_) fun z => absurd hg z
    refine gx_seq ?_
    have hv := G.val1 g
    have hv0 : 0 < val rs g := by
      obtain ⟨r, hr, _, e⟩ := val_get hg
      rw [e]
      exact G.pos r hr
    have hDD : D ≤ 12 ^ 30 := Nat.le_trans (Nat.le_mul_of_pos_right D (Nat.pow_pos (by decide))) hD9
    have h400 : (12 : Nat) ^ 30 * 2 < 2 ^ 400 := by decide
    have hb := bt_of hD0 (by omega) hv.2.2 hv.1 hv.2.1
    refine ⟨_, atI_two.1, _, atI_two.2, rfl, 5, rfl, by decide, by decide, fun k k0 k5 => ?_⟩
    obtain ⟨j, ej, j1, j5⟩ : ∃ j : Nat, 1 + k = (j : Int) ∧ 1 ≤ j ∧ j ≤ 5 := ⟨(1 + k).toNat, by omega, by omega, by omega⟩
    show CMulX ((val rs g).den : Int) (1 + k) ∧ W_law_lowest [.int (val rs g).num, .int (((val rs g).den : Int) * (1 + k))] _
    rw [ej]
    refine ⟨mulx_ok (a := 450) (b := 3) (by rw [Int.natAbs_natCast]; exact hb.2) (by rw [Int.natAbs_natCast]; omega) (by decide), ?_⟩
    have j9 : (5 : Nat) < 2 ^ 1000 := by decide
    refine w_part (by omega) (by omega) hv0 hb fun r hr => ?_
    obtain ⟨r0, rl, rm⟩ := part_facts (k := j) (by omega) hr hv0 hv.2.2
    refine gx_seq ?_
    show W_law_fraction [] _
    refine w_frac fun m2 r2 m20 m21 r20 r21 r2m => ?_
    show W_law_pick [.list [frD (val rs g), frD r, frD r2]] _
    refine w_pick (by show 0 < 3; decide) (by show 3 < 2 ^ 60; decide) fun y hy => ?_
    obtain ⟨q, M, rfl, M1, M12, q0, q1, mq⟩ : ∃ (q : Rat) (M : Nat), y = frD q ∧ 0 < M ∧ M ≤ 12 ∧ 0 < q ∧ q ≤ 1 ∧ Mu (D * M) q := by
      simp only [List.mem_cons, List.not_mem_nil, or_false] at hy
      rcases hy with rfl | rfl | rfl
      · exact ⟨_, 1, rfl, by decide, by decide, hv0, hv.2.1, hv.2.2.up⟩
      · exact ⟨_, j, rfl, by omega, by omega, r0, by have := hv.2.1; grind, rm⟩
      · exact ⟨_, m2, rfl, m20, m21, r20, r21, by rw [Nat.mul_comm]; exact r2m.up⟩
    have G1 : Good (D * M) rs := G.up
    have E0 : 0 < D * M := Nat.mul_pos hD0 M1
    have E9 : D * M * 12 ^ zs.length ≤ 12 ^ 30 := by
      refine Nat.le_trans ?_ hD9
      rw [Nat.pow_succ, Nat.mul_assoc, Nat.mul_comm (12 ^ zs.length) 12]
      exact Nat.mul_le_mul_left D (Nat.mul_le_mul_right _ M12)
    have E30 : D * M ≤ 12 ^ 30 := Nat.le_trans (Nat.le_mul_of_pos_right _ (Nat.pow_pos (by decide))) E9
    revert G1 E0 E9 E30 mq
    generalize D * M = E
    intro mq G1 E0 E9 E30
    refine gx_seq ?_
    refine gt_set ?_
    show W_law_tried [hD rs, .str g, .str t, frD q] _
    have shs : ∀ {s : Str}, Nm s → SeqAt.shaped (.str s) = true := fun h => (Sh.str (k := 1) (nm_txt h _ rfl).2).shaped (by decide)
    refine w_tried2 E0 (by omega) G1 ng nt q0 q1 mq (fun c => ?_) fun ne le ss MV l12 => ?_
    · refine gt_nx ?_
      refine ⟨fun e => (nomatch e), fun _ => ?_⟩
      refine ⟨shs ng, shs nt, ?_⟩
      rw [show PyData.eqv (.str g) (.str t) = decide (g = t) from Datum.eqv g t]
      by_cases e : g = t
      · rw [decide_eq_true e]
        exact ⟨fun e => (nomatch e), fun _ => ⟨fun e => (nomatch e), fun _ => aNext_of (hX _ ⟨E, rs, _, _, _, _, _, _, _, _, _, _, _, _, _, rfl, E0, E9, G1⟩)⟩⟩
      · rw [decide_eq_false e]
        refine ⟨fun _ => ?_, fun e => (nomatch e)⟩
        refine ⟨fun e1 => ?_, fun e1 => ⟨fun e => (nomatch e), fun _ => aNext_of (hX _ ⟨E, rs, _, _, _, _, _, _, _, _, _, _, _, _, _, rfl, E0, E9, G1⟩)⟩⟩
        have e1' : decide ((((rs.map rwD).length : Nat) : Int) < 12) = true := e1
        rw [decide_eq_true_eq, List.length_map] at e1'
        have lt : val rs g < q := by
          rcases c with c | c | c
          · exact absurd c e
          · exact c
          · omega
        have hq := bt_of E0 (by omega) mq (by grind) q1
        have n1 : ∀ {d : Nat}, d < 2 ^ 450 → (d : Int).natAbs < 2 ^ 450 := fun h => by rw [Int.natAbs_natCast]; exact h
        refine ⟨_, atI_two.1, _, atI_two.2, mulx_ok hb.1 (n1 hq.2) (by decide), _, atI_two.1, _, atI_two.2, mulx_ok hq.1 (n1 hb.2) (by decide), fun e2 => ?_, fun _ => aNext_of (hX _ ⟨E, rs, _, _, _, _, _, _, _, _, _, _, _, _, _, rfl, E0, E9, G1⟩)⟩
        have e2' : decide (q.num * ((val rs g).den : Int) ≤ (val rs g).num * (q.den : Int)) = true := e2
        rw [decide_eq_true_eq] at e2'
        rw [Rat.lt_iff] at lt
        omega
    · refine gt_nx ?_
      refine ⟨fun _ => ?_, fun e => (nomatch e)⟩
      refine aSeq_of ?_
      show W_law_step_right [hD rs, .list ((s0 :: ns').map .str), hD ss, .tuple [.str g, .str t, frD q]] _
      refine w_step E0 (by omega) G1 ng nt q0 q1 mq ne le MV l12 ?_
      refine ⟨fun e => (nomatch e), fun _ => ?_⟩
      refine gNext_seq ?_
      exact body2 G1 E0 (by omega) ng nt ne q0 q1 mq le MV l12 fun v12 v13 v14 v15 v16 => hX _ ⟨E, ss, _, _, _, _, _, _, _, _, _, _, _, _, _, rfl, E0, E9, MV.good l12⟩
  · rintro _ ⟨D, rs, v4, v5, v6, v7, v8, v9, v10, v11, v12, v13, v14, v15, v16, rfl, hD0, hD9, G⟩
    have h9 : (12 : Nat) ^ 30 < 2 ^ 400 := by decide
    have : D ≤ 12 ^ 30 := by simpa using hD9
    exact p_isH hD0 (by omega) G rfl
  · refine ⟨1, [(s0, 1)], _, _, _, _, _, _, _, _, _, _, _, _, _, rfl, by decide, ?_, ?_⟩
    · rw [Nat.one_mul]
      exact Nat.pow_le_pow_right (by decide) hr
    · refine ⟨List.pairwise_singleton _ _, fun r h => ?_, ?_, fun r h => ?_, fun r h => ?_, by show 1 ≤ 12; decide⟩
      · rw [List.mem_singleton] at h
        rw [h]
        show (0 : Rat) < 1
        grind
      · show (1 : Rat) + 0 = 1
        grind
      · rw [List.mem_singleton] at h
        rw [h]
        exact ⟨1, by grind⟩
      · rw [List.mem_singleton] at h
        rw [h]
        exact hnm _ List.mem_cons_self
end K28

set_option Elab.async false
set_option linter.all false
set_option maxRecDepth 100000
set_option maxHeartbeats 4000000
namespace K28
open PySem PySem.Spec L2 PySem.W Lh Vc
section
variable {P : Program} {w : World} {K : Frag} {mg : Str → Option Value} {base : Heap} {cs0 : List (Addr × PyData)}
open PyProof.Rows
theorem ok_law_begun {f : Addr} {fd : FuncData} (zl : mg "list" = none) (O : Own K mg "_law_begun" s_law_begun f fd ["script"]) : FnOk P w K mg base CX0 1 f fd ["script"] (sp_begun K) := by
  have nd := sc_law_begun.nd
  refine O.F.ok sc_law_begun (fun vs H Q E h => ?_) (fun cdv A outer s H vs Q E hr h => ?_)
  · obtain ⟨a, ns, rfl, _⟩ := h
    rfl
  · obtain ⟨a, ns, rfl, hS, hl, q⟩ := h
    have hu := hu_of hr
    refine ⟨_, (pss_cons (ps_setLc (i := 1) (own := [("cell", 2)]) (g := gName 2) (tt := _) (by rfl) nd rfl rfl (sw_true rfl rfl rfl (by decide +kernel)) (k_forL K (pv 0)) (blkOk_by (own := [("cell", 2)]) (N := N_law_begun) (sc := defScope s_law_begun) (by decide +kernel)) (fun _ _ _ _ _ => (pg_name (i := 2) nd rfl (Or.inl rfl))) (fun _ _ _ _ _ => (pts_one (pt_cmpR op_ge (pv 2) (pe_op op_pow pe_int pe_int) (nomark _)))) (fun _ _ _ _ _ => (pe_op op_sub (pv 2) (pe_op op_pow pe_int pe_int))))
      (pss_one (ps_ret (pe_disp (pps_cons pe_str (pv 1) (pps_cons pe_str (pe_callTy (k_list K) (by rfl) zl (by decide +kernel) (pa_cons (pv 0) pa_nil)) (pps_cons pe_str pe_int (pps_cons pe_str pe_int pps_nil)))) (by rfl) (by rfl) (fun z => by cases z) (by decide))))), ?_⟩
    have hp : (0 : Int) ≤ 18 ∧ (18 : Int) ≤ 1000000 ∧ (10 : Int).natAbs < 2 ^ 64 := by decide
    refine ⟨.ref a, rfl, a, rfl, ⟨_, hS⟩, fun g hg => lc_list (K := K) (a := a) (xs := ns.map V.int) (fun i H2 => (∀ b o, H b = some o → H2 b = some o) ∧ ∃ ws : List Int, H2 g = some (.lst (ws.map V.int)) ∧ ws.length ≤ i)
      ⟨ext_new hg, [], upd_same, Nat.le_refl _⟩ (fun i H2 _ ⟨k, _⟩ => Same.seq k hS) ?_ ?_⟩
    · rintro i x H2 hx ⟨k, ws, e, hws⟩
      obtain ⟨z, rfl⟩ : ∃ z, x = V.int z := by
        rw [List.getElem?_map] at hx
        cases ez : ns[i]? with
        | none => rw [ez] at hx; cases hx
        | some z => rw [ez] at hx; exact ⟨z, (Option.some.inj hx).symm⟩
      have hi : i < 63 := by
        have := (List.getElem?_eq_some_iff.mp hx).1
        rw [List.length_map] at this
        omega
      refine ⟨rfl, _, rfl, _, _, rfl, rfl, hp, _, _, rfl, rfl, _, rfl, ?_⟩
      refine ite2 (fun _ => ?_) (fun _ => ⟨k, ws, e, by omega⟩)
      refine ⟨_, rfl, _, _, rfl, rfl, hp, _, _, rfl, rfl, _, e, by rw [List.length_map]; exact lt_line (by omega), fun b o hb => ?_, ws ++ [_], by rw [upd_same, List.map_append]; rfl, by rw [List.length_append]; show ws.length + 1 ≤ i + 1; omega⟩
      rw [upd_ne (ne_of_none hb hg)]
      exact k b o hb
    · rintro H2 ⟨k, ws, e, _⟩
      refine fun p np => ⟨.ref g, rfl, .ref a, rfl, a, ns.map V.int, rfl, .inl (Same.seq (fun b o hb => ?_) hS), fun c nc => ?_⟩
      · rw [upd_ne (ne_of_none hb (by
          cases ep : H p with
          | none => rfl
          | some o => rw [k p o ep] at np; cases np))]
        exact k b o hb
      · have npH : H p = none := by
          cases ep : H p with
          | none => rfl
          | some o => rw [k p o ep] at np; cases np
        have hcp : c ≠ p := fun z => by rw [z, upd_same] at nc; cases nc
        have hgp : g ≠ p := fun z => by rw [z] at e; rw [e] at np; cases np
        have hgc : g ≠ c := fun z => by rw [z] at e; rw [upd_ne hcp, e] at nc; cases nc
        have ncH : H c = none := by
          rw [upd_ne hcp] at nc
          cases ep : H c with
          | none => rfl
          | some o => rw [k c o ep] at nc; cases nc
        refine ⟨by rw [upd_ne hcp.symm, upd_same], [(kG, .ref g), (kC, .ref c), (kR, .int 0), (kT, .int 0)], rfl, by show 4 ≤ 15; decide, ?_⟩
        have em : mergeK [] [(kG, V.ref g), (kC, .ref c), (kR, .int 0), (kT, .int 0)] = Lh.stK g c 0 0 := by
          unfold Lh.stK
          show putK (putK (putK (putK [] kG _) kC _) kR _) kT _ = _
          rw [putK_new _ rfl, putK_new (kvs := _) (k := kC) _ (by exact (valV_neg kGC).trans rfl), putK_new (k := kR) _ (by exact (valV_neg kGR).trans ((valV_neg kCR).trans rfl)), putK_new (k := kG) _ rfl]
          rfl
        rw [em]
        refine q p g c _ (fun b o hb => ?_) npH hg ncH ⟨0, 0, ws, ns, ⟨upd_same, ?_, ?_, hgc⟩, Int.le_refl _, Int.le_refl _⟩
        · rw [upd_ne (ne_of_none hb npH), upd_ne (ne_of_none hb ncH), upd_ne (ne_of_none hb npH)]
          exact k b o hb
        · rw [upd_ne hgp, upd_ne hgc, upd_ne hgp]
          exact e
        · rw [upd_ne hcp, upd_same]

theorem ok_law_mixed {f : Addr} {fd : FuncData} (O : Own K mg "_law_mixed" s_law_mixed f fd ["state"]) : FnOk P w K mg base CX0 1 f fd ["state"] sp_mixed := by
  have nd := sc_law_mixed.nd
  refine O.F.ok sc_law_mixed (fun vs H Q E h => ?_) (fun cdv A outer s H vs Q E hr h => ?_)
  · obtain ⟨p, g, c, r, t, gs, cs, rfl, _⟩ := h
    rfl
  · obtain ⟨p, g, c, r, t, gs, cs, rfl, S, h0, h9, q⟩ := h
    have hu := hu_of hr
    refine ⟨_, (pss_cons (ps_set (i := 1) nd rfl (Or.inl rfl) (pe_op op_add (pe_dget hu (pv 0) pe_str (fun _ _ => rfl)) pe_int))
      (pss_cons (ps_dput hu (pv 0) pe_str (pv 1) rfl)
      (pss_cons (ps_set (i := 2) nd rfl (Or.inl rfl) pe_int)
      (pss_cons (ps_for PassesOwn.never rfl (k_forL K (pe_lst (pa_cons pe_int (pa_cons pe_int (pa_cons pe_int (pa_cons pe_int (pa_cons pe_int (pa_cons pe_int pa_nil)))))))) (pg_name (i := 3) nd rfl (Or.inl rfl))
      (pss_cons (ps_set (i := 4) nd rfl (Or.inl rfl) (pe_op op_add (pe_op op_mul pe_int (pv 1)) (pe_op op_fdivN (pv 3) pe_int)))
      (pss_cons (ps_for PassesOwn.never rfl (k_forL K (pe_dget hu (pv 0) pe_str (fun _ _ => rfl))) (pg_name (i := 5) nd rfl (Or.inl rfl))
      (pss_one (ps_set (i := 4) nd rfl (Or.inl rfl) (pe_op op_modN (pe_op op_add (pe_op op_mul (pv 4) pe_int) (pv 5)) (pv 3)))))
      (pss_one (ps_set (i := 2) nd rfl (Or.inl rfl) (pe_op op_add (pe_op op_mul (pv 2) pe_int) (pe_op op_modN (pe_op op_mulX (pv 4) (pv 4)) (pv 3))))))))
      (pss_one (ps_ret (pv 2))))))), ?_⟩
    -- turn = state['turn'] + 1; state['turn'] = turn; found = 0
    have S1 := S.setP r (t + 1)
    refine ⟨.ref p, rfl, p, .int t, rfl, dg S.hp (st_turn g c r t), _, _, rfl, rfl, .int (t + 1), rfl, .ref p, rfl, p, _, rfl, dp S.hp st4 (st_putT g c r t (t + 1)), ?_⟩
    -- for prime in [..]
    refine ⟨Nat.le_of_ble_eq_true rfl, fun l hl => ⟨l, rfl, ⟨_, .inl (.inl upd_same)⟩, ?_⟩⟩
    have lp : p ≠ l := ne_of_none S1.hp hl
    have lg : g ≠ l := ne_of_none S1.hg hl
    have lc : c ≠ l := ne_of_none S1.hc hl
    have S2 : StD p g c r (t + 1) gs cs (upd (upd H p (.dK (Lh.stK g c r (t + 1)))) l (.lst (primes.map V.int))) :=
      ⟨by rw [upd_ne lp]; exact S1.hp, by rw [upd_ne lg]; exact S1.hg, by rw [upd_ne lc]; exact S1.hc, S1.ne⟩
    refine for_list (K := K) (a := l) (xs := primes.map V.int) (fun i σ H2 => H2 = upd (upd H p (.dK (Lh.stK g c r (t + 1)))) l (.lst (primes.map V.int)) ∧ ∃ (z : Int) (x3 x4 x5 : Option V), σ = [some (.ref p), some (.int (t + 1)), some (.int z), x3, x4, x5])
      ⟨rfl, 0, none, none, none, rfl⟩ (fun i σ H2 _ ⟨e, _⟩ => by rw [e]; exact .inl (.inl upd_same)) ?_ ?_
    · rintro i x σ H2 hx ⟨rfl, z, x3, x4, x5, rfl⟩
      obtain ⟨y, hy, rfl⟩ : ∃ y, y ∈ primes ∧ x = V.int y := by
        have := List.mem_of_getElem? hx
        obtain ⟨y, hy, e⟩ := List.mem_map.mp this
        exact ⟨y, hy, e.symm⟩
      have hb : 2147483543 ≤ y ∧ y ≤ 2147483629 := by
        simp only [primes, List.mem_cons, List.not_mem_nil, or_false] at hy
        omega
      -- blend = 104729 * turn + prime // 7
      refine ⟨.int (t + 1), rfl, _, _, rfl, rfl, .inl ⟨by decide, by decide⟩, .int y, rfl, _, _, rfl, rfl, ⟨by decide, by decide⟩, _, _, rfl, rfl, ?_⟩
      -- for cell in state['cells']
      refine ⟨.ref p, rfl, p, .ref c, rfl, dg S2.hp (st_cells g c r (t + 1)), c, rfl, ⟨_, .inl (.inl S2.hc)⟩, ?_⟩
      refine for_list (K := K) (a := c) (xs := cs.map V.int) (fun i σ H2 => H2 = upd (upd H p (.dK (Lh.stK g c r (t + 1)))) l (.lst (primes.map V.int)) ∧ ∃ (b : Int) (x5 : Option V), σ = [some (.ref p), some (.int (t + 1)), some (.int z), some (.int y), some (.int b), x5] ∧ -1000 ≤ b ∧ b < 1099511627776 * (capA : Int))
        ⟨rfl, _, x5, rfl, ?_⟩ (fun i σ H2 _ ⟨e, _⟩ => by rw [e]; exact .inl (.inl S2.hc)) ?_ ?_
      · have : y.fdiv 7 = y / 7 := Int.fdiv_eq_ediv_of_nonneg _ (by decide)
        rw [this]
        have hk := capA_big
        omega
      · rintro j x σ H2 hx ⟨rfl, b, x5, rfl, hb1, hb2⟩
        obtain ⟨u, rfl⟩ : ∃ u, x = V.int u := by
          have := List.mem_of_getElem? hx
          obtain ⟨u, _, e⟩ := List.mem_map.mp this
          exact ⟨u, e.symm⟩
        refine ⟨.int b, rfl, _, _, rfl, rfl, .inr ⟨by decide, by decide⟩, .int u, rfl, _, _, rfl, rfl, .int y, rfl, _, _, rfl, rfl, (by omega), rfl, _, _, rfl, ?_⟩
        have e : (b * 48271 + u).fmod y = (b * 48271 + u) % y := Int.fmod_eq_emod_of_nonneg _ (by omega)
        rw [e]
        have h1 := Int.emod_nonneg (b * 48271 + u) (show y ≠ 0 by omega)
        have h2 := Int.emod_lt_of_pos (b * 48271 + u) (show 0 < y by omega)
        have hk := capA_big
        omega
      · rintro σ H2 ⟨rfl, b, x5, rfl, hb1, hb2⟩
        refine ⟨.int z, rfl, _, _, rfl, rfl, .inr ⟨by decide, by decide⟩, .int b, rfl, .int b, rfl, _, _, rfl, rfl, capA_mul hb1 hb2, .int y, rfl, _, _, rfl, rfl, (by omega), _, _, rfl, rfl, rfl, _, _, _, _, rfl⟩
    · rintro σ H2 ⟨rfl, z, x3, x4, x5, rfl⟩
      refine ⟨.int z, rfl, q z _ (fun a o ha hne => ?_) S2⟩
      by_cases e : a = l
      · subst e
        rw [upd_ne hne, ha] at hl
        cases hl
      · rw [upd_ne e, upd_ne hne]
        exact ha
theorem ok_law_take {f fM : Addr} {fd fdM : FuncData} (O : Own K mg "_law_take" s_law_take f fd ["state", "many"]) (O_law_mixed : Own K mg "_law_mixed" s_law_mixed fM fdM ["state"]) : FnOk P w K mg base CX0 2 f fd ["state", "many"] (spWS (ΦA cs0) 1 false W_take) := by
  have nd := sc_law_take.nd
  have G_law_mixed : FnOk P w K mg base CX0 1 fM fdM ["state"] sp_mixed := ok_law_mixed O_law_mixed
  refine O.F.ok sc_law_take (fun vs H Q E h => ?_) (fun cdv A outer s H vs Q E hr h => ?_)
  · obtain ⟨A, S, us, ds, P, _, rfl, hd, _, _, _, n, _, _, ⟨hl, _⟩, _⟩ := h
    rw [List.length_cons, hd.length, hl]
    rfl
  · obtain ⟨A, S0, us, ds, P, ⟨p, g, c, rfl⟩, rfl, hd, ht, hcs, hA, n, hcap, ⟨r, t, gs, cs, S, h0, hn⟩, ⟨_, m, rfl, hm0, hm9, hP⟩, q⟩ := h
    have hcap : n + 1 ≤ capA := hcap
    have hu := hu_of hr
    have eu : us = [.int m] := by
      cases hd with
      | cons a b =>
        cases a
        cases b
        rfl
    subst eu
    refine ⟨_, (pss_cons (ps_if (PW.pt (pw_and (pt_cmpR (k_eq K hr.units) (pe_dget hu (pv 0) pe_str (fun _ _ => rfl)) pe_int (nomark _)) (pw_and1 (pt_cmpR (k_ne K hr.units) (pe_dget hu (pv 0) pe_str (fun _ _ => rfl)) (pe_lst pa_nil) (nomark _)))))
      (pss_one (ps_dput hu (pv 0) pe_str (k_bm K PySem.F.plainAttrs_list PySem.F.slot_list_pop PySem.F.type_list_pop mt_popAt (pe_dget hu (pv 0) pe_str (fun _ _ => rfl)) (pa_cons pe_int pa_nil)) rfl)) (pss_one (ps_if (pt_cmpR (k_eq K hr.units) (pe_dget hu (pv 0) pe_str (fun _ _ => rfl)) pe_int (nomark _))
      (pss_one (ps_dput hu (pv 0) pe_str (pe_call G_law_mixed (hr.mono (by decide)) (by rfl) O_law_mixed.g O_law_mixed.F.kp O_law_mixed.b .nil pass0 (pa_cons (pv 0) pa_nil)) rfl)) pss_nil)))
      (pss_cons (ps_set (i := 2) nd rfl (Or.inl rfl) (pe_op op_modN (pe_dget hu (pv 0) pe_str (fun _ _ => rfl)) (pv 1)))
      (pss_cons (ps_dput hu (pv 0) pe_str (pe_op op_fdivW (pe_dget hu (pv 0) pe_str (fun _ _ => rfl)) (pv 1)) rfl)
      (pss_one (ps_ret (pv 2)))))), ?_⟩
    refine join (fun H' => ∃ r t gs, StD p g c r t gs cs H' ∧ 0 ≤ t ∧ t ≤ (n + 1 : Nat) ∧ ∀ a o, H a = some o → ¬ Sm p g c a → H' a = some o) (fun X hX => ?_) (fun H' ⟨r', t', gs', S', h0', hn', kp⟩ => ?_)
    · -- if state['rest'] == 0 and state['great'] != []
      refine ⟨.ref p, rfl, p, .int r, rfl, dg S.hp (st_rest g c r t), Int, _, _, r, 0, .int r, .int 0, by decide, _, rfl, ?_⟩
      by_cases er : r = 0
      · rw [decide_eq_true er]
        refine iteT ⟨.ref p, rfl, p, .ref g, rfl, dg S.hp (st_great g c r t), Nat.zero_le _, fun l hl => ?_⟩
        have lp : p ≠ l := ne_of_none S.hp hl
        have lg : g ≠ l := ne_of_none S.hg hl
        have lc : c ≠ l := ne_of_none S.hc hl
        have S1 : StD p g c r t gs cs (upd H l (.lst [])) := ⟨by rw [upd_ne lp]; exact S.hp, by rw [upd_ne lg]; exact S.hg, by rw [upd_ne lc]; exact S.hc, S.ne⟩
        have k1 : ∀ a o, H a = some o → (upd H l (.lst [])) a = some o := ext_new hl
        refine ⟨List Int, _, _, gs, [], .lst (.inl (.inl S1.hg)) (DqA.dp K (A := fun _ => False) (plainAll_toD _) (by show DqA _ _ (gs.map V.int) (gs.map PyData.int); exact DqA.of_ints)), .lst (.inl (.inl upd_same)) .nil, by decide, _, rfl, ?_⟩
        by_cases eg : gs = []
        · rw [decide_eq_false (by rw [eg]; exact fun z => z rfl)]
          refine iteF ⟨.ref p, rfl, p, .int r, rfl, dg S1.hp (st_rest g c r t), Int, _, _, r, 0, .int r, .int 0, by decide, _, rfl, ?_⟩
          rw [decide_eq_true er]
          refine iteT ⟨.ref p, rfl, p, g, c, r, t, gs, cs, rfl, S1, h0, by omega, fun z H2 k2 S2 => ⟨.ref p, rfl, p, _, rfl, dp S2.hp st4 (st_putR g c r (t + 1) z), hX _ ⟨z, t + 1, gs, S2.setP z (t + 1), by omega, by omega, fun a o ha hne => ?_⟩⟩⟩
          rw [upd_ne (fun e => hne (.inl e))]
          exact k2 a o (k1 a o ha) (fun e => hne (.inl e))
        · rw [decide_eq_true eg]
          obtain ⟨z, gs', rfl⟩ : ∃ z gs', gs = z :: gs' := by
            cases gs with
            | nil => exact absurd rfl eg
            | cons z gs' => exact ⟨z, gs', rfl⟩
          have S2 := S1.setG gs'
          refine iteT ⟨.ref p, rfl, p, .ref g, rfl, dg S1.hp (st_great g c r t), .inl ⟨rfl, _, .inl (.inl S1.hg)⟩, g, _, 0, 0, .int z, rfl, rfl, S1.hg, by decide, by decide, by simp [seqIndex?], rfl, ?_⟩
          refine ⟨.ref p, rfl, p, _, rfl, dp S2.hp st4 (st_putR g c r t z), hX _ ⟨z, t, gs', S2.setP z t, h0, by omega, fun a o ha hne => ?_⟩⟩
          rw [upd_ne (fun e => hne (.inl e)), upd_ne (fun e => hne (.inr (.inl e)))]
          exact k1 a o ha
      · rw [decide_eq_false er]
        refine iteF (iteF ⟨.ref p, rfl, p, .int r, rfl, dg S.hp (st_rest g c r t), Int, _, _, r, 0, .int r, .int 0, by decide, _, rfl, ?_⟩)
        rw [decide_eq_false er]
        exact iteF (hX _ ⟨r, t, gs, S, h0, by omega, fun a o ha _ => ha⟩)
    · -- found = state['rest'] % many; state['rest'] = state['rest'] // many; return found
      refine ⟨.ref p, rfl, p, .int r', rfl, dg S'.hp (st_rest g c r' t'), .int m, rfl, _, _, rfl, rfl, by omega, ?_⟩
      refine ⟨.ref p, rfl, p, .int r', rfl, dg S'.hp (st_rest g c r' t'), .int m, rfl, _, _, rfl, rfl, take_div hm0 hm9, .ref p, rfl, p, _, rfl, dp S'.hp st4 (st_putR g c r' t' _), ?_⟩
      have S2 := S'.setP (r' / m) t'
      have e : r'.fmod m = r' % m := Int.fmod_eq_emod_of_nonneg _ (by omega)
      refine ⟨.int (r'.fmod m), rfl, q _ (.int (r'.fmod m)) _ (fun a o ha hne => ?_) ⟨_, _, _, _, S2, h0', hn'⟩ (.inl ⟨rfl, .int _⟩) (hP _ ?_ ?_)⟩
      · rw [upd_ne (fun e => hne (.inl e))]
        exact kp a o ha hne
      · rw [e]
        exact Int.emod_nonneg _ (by omega)
      · rw [e]
        exact Int.emod_lt_of_pos _ hm0
end

end K28

set_option Elab.async false
set_option linter.all false
set_option maxRecDepth 100000
set_option maxHeartbeats 2000000
/-! The law's call where tuples and dicts of the module's top are read as data: they are locked, and no part of what is written. -/
namespace Lw
open PySem PySem.Spec PyProof.Rows L2
/-- K but for these addresses -/
def dropF (as : List Addr) (K : PySem.W.Frag) : PySem.W.Frag := K.filter fun p => !decide (p.1 ∈ as)
theorem lookup_drop {as : List Addr} : ∀ {K : PySem.W.Frag} {a : Addr}, a ∉ as → (dropF as K).lookup a = K.lookup a
  | [], a, _ => rfl
  | (b, o) :: K, a, h => by
    unfold dropF
    by_cases hb : b ∈ as
    · rw [List.filter_cons_of_neg (by simp [hb])]
      have ne : (a == b) = false := beq_eq_false_iff_ne.mpr fun e => h (e ▸ hb)
      rw [List.lookup_cons, ne]
      exact lookup_drop h
    · rw [List.filter_cons_of_pos (by simp [hb]), List.lookup_cons, List.lookup_cons]
      cases a == b with
      | true => rfl
      | false => exact lookup_drop h
theorem lookup_dropN {as : List Addr} : ∀ {K : PySem.W.Frag} {a : Addr}, a ∈ as → (dropF as K).lookup a = none
  | [], a, _ => rfl
  | (b, o) :: K, a, h => by
    unfold dropF
    by_cases hb : b ∈ as
    · rw [List.filter_cons_of_neg (by simp [hb])]
      exact lookup_dropN h
    · rw [List.filter_cons_of_pos (by simp [hb]), List.lookup_cons]
      have ne : (a == b) = false := beq_eq_false_iff_ne.mpr fun e => hb (e ▸ h)
      rw [ne]
      exact lookup_dropN h
theorem drop_sub {as : List Addr} {K : PySem.W.Frag} {a : Addr} {o : Obj} (h : (dropF as K).lookup a = some o) : K.lookup a = some o ∧ a ∉ as := by
  by_cases ha : a ∈ as
  · rw [lookup_dropN ha] at h
    cases h
  · exact ⟨(lookup_drop ha).symm.trans h, ha⟩
theorem drop_in {as : List Addr} {K : PySem.W.Frag} {h : Heap} (X : K.In h) : (dropF as K).In h := fun a o e => X a o (drop_sub e).1
/-- a constant: its object, and what it is -/
abbrev Cns := List (Addr × (Obj × HO))
structure CnsOk (P : Program) (w : World) (K : PySem.W.Frag) (C : Cns) : Prop where
  at_ : ∀ b p, C.lookup b = some p → K.lookup b = some p.1
  ok : ∀ b p, C.lookup b = some p → ∀ (H : Hp) (h : Heap), h.get? b = some p.1 → ObjOk P w H h b p.2
  lst : ∀ b p, C.lookup b = some p → p.1.cls ≠ .type "list"
  far : ∀ b p, C.lookup b = some p → b ≠ mainGlobals ∧ b ≠ builtinsNs ∧ b ≠ cStatics
theorem mem_map {C : Cns} {b : Addr} (h : b ∈ C.map (·.1)) : ∃ p, C.lookup b = some p := by
  induction C with
  | nil => exact absurd h List.not_mem_nil
  | cons q C ih =>
    rw [List.lookup_cons]
    cases e : b == q.1 with
    | true => exact ⟨_, rfl⟩
    | false =>
      rw [List.map_cons, List.mem_cons] at h
      rcases h with h | h
      · rw [h, beq_self_eq_true] at e
        cases e
      · exact ih h
theorem map_mem {C : Cns} {b : Addr} {p : Obj × HO} (h : C.lookup b = some p) : b ∈ C.map (·.1) := by
  induction C with
  | nil => cases h
  | cons q C ih =>
    rw [List.lookup_cons] at h
    rw [List.map_cons, List.mem_cons]
    cases e : b == q.1 with
    | true => exact .inl (beq_iff_eq.mp e)
    | false =>
      rw [e] at h
      exact .inr (ih h)
def cHp (C : Cns) : Hp := fun b => (C.lookup b).map fun p => .frz p.1 p.2
def OnlyC (C : Cns) (H : Hp) : Prop := ∀ b p, C.lookup b = some p → H b = some (.frz p.1 p.2)
theorem law_callC {P : Program} {w : World} {K : PySem.W.Frag} {mg mb : Str → Option Value} {CX : CXT} {k : Nat} {fa a : Addr} {fd : FuncData} {x : Str} {sp : Sp} {s₁ : Shared} {vs : List Value} {ns : List Int} {C : Cns}
    (KX : K.In s₁.heap) (hC : CnsOk P w K C) (hns : s₁.heap.Ns mainGlobals mg) (hb : s₁.heap.Ns builtinsNs mb) (hbb : ∀ x : Str, x ≠ "__name__" → mb x = bootBuiltins x) (hlim : s₁.heap.NoLimit) (hg : s₁.gens = #[])
    (ha : s₁.heap.get? a = some { cls := .type "list", data := .seq vs.toArray }) (hi : IntsAre vs ns) (hl : ns.length ≤ sizeLine) (hr : Room k callerA)
    (F : ∀ base : Heap, (dropF (C.map (·.1)) K).In base → base.Ns mainGlobals mg → FnOk P w (dropF (C.map (·.1)) K) mg base CX k fa fd [x] sp) (hbind : ∀ (s : Shared) (u : Value), BindsTo s fd ⟨[u], []⟩ [(x, u)])
    (hsp : ∀ H : Hp, OnlyC C H → SqL (dropF (C.map (·.1)) K) H a (ns.map V.int) → sp [.ref a] H (fun v _ => v = .bl true) fun _ _ _ => False)
    (hCX : ∀ H e s', CX [] H s₁ (fun _ _ _ => False) e s' → False) :
    codeAny (model P w) callerA (.call (.ref fa) ⟨[.ref a], []⟩) (fun r s' => r = .ok (.ret (.bool true)) ∧ OldK s₁.heap s'.heap ∧ s'.os = s₁.os ∧ AllBare s'.gens) s₁ := by
  have rv := vals_ints hi
  have lenV := hi.length
  have KX' := drop_in (as := C.map (·.1)) KX
  have aC : C.lookup a = none := by
    cases q : C.lookup a with
    | none => rfl
    | some p =>
      have e := KX a _ (hC.at_ a p q)
      rw [ha] at e
      injection e with e
      exact absurd (by rw [← e]) (hC.lst a p q)
  have core : ∀ H : Hp, OnlyC C H → SqL (dropF (C.map (·.1)) K) H a (ns.map V.int) → HOk P w H s₁.heap → (∀ b, H b ≠ none → b = a ∨ b ∈ C.map (·.1)) → (∀ b u, H b = some u → ∃ o u', u = .frz o u') → (H a ≠ none → K.lookup a = none) →
      codeAny (model P w) callerA (.call (.ref fa) ⟨[.ref a], []⟩) (fun r s' => r = .ok (.ret (.bool true)) ∧ OldK s₁.heap s'.heap ∧ s'.os = s₁.os ∧ AllBare s'.gens) s₁ := by
    intro H hO hS hok hA hF hK
    have base_of : ∀ {b : Addr} {o : Obj}, s₁.heap.get? b = some o → H b = none → (hidT s₁.heap H).get? b = some o := fun e n => hidT_get e n
    have noA : ∀ {b : Addr} {o : Obj} {es : Array DictEntry} {ep : Nat}, b ∉ C.map (·.1) → s₁.heap.get? b = some o → o.data = .dict es ep → H b = none := fun {b o es ep} hb e d => by
      cases q : H b with
      | none => rfl
      | some u =>
        have e' : b = a := (hA b (by rw [q]; simp)).resolve_right hb
        subst e'
        rw [ha] at e; cases e
        have d' : Data.seq vs.toArray _ = Data.dict es ep := d
        cases d'
    have nsK : ∀ {b : Addr} {m : Str → Option Value}, b ∉ C.map (·.1) → s₁.heap.Ns b m → (hidT s₁.heap H).Ns b m := fun {b m} hb ⟨o, es, ep, e, d, r⟩ => ⟨o, es, ep, base_of e (noA hb e d), d, r⟩
    have far : ∀ b, (b = mainGlobals ∨ b = builtinsNs ∨ b = cStatics) → b ∉ C.map (·.1) := fun b hb hm => by
      obtain ⟨p, hp⟩ := mem_map hm
      obtain ⟨h1, h2, h3⟩ := hC.far b p hp
      rcases hb with hb | hb | hb
      · exact h1 hb
      · exact h2 hb
      · exact h3 hb
    have hKb : (dropF (C.map (·.1)) K).In (hidT s₁.heap H) := fun b o e => base_of (KX' b o e) (by
      cases q : H b with
      | none => rfl
      | some u =>
        rcases hA b (by rw [q]; simp) with e' | e'
        · subst e'
          have := (drop_sub e).1
          rw [hK (by rw [q]; simp)] at this; cases this
        · exact absurd e' (drop_sub e).2)
    have hM : Mod (dropF (C.map (·.1)) K) mg (hidT s₁.heap H) := ⟨hKb, nsK (far _ (.inl rfl)) hns, ⟨mb, nsK (far _ (.inr (.inl rfl))) hb, hbb⟩, let ⟨mc, h1, h2⟩ := hlim; ⟨mc, nsK (far _ (.inr (.inr rfl))) h1, h2⟩⟩
    have e0 : Env0 P w (dropF (C.map (·.1)) K) mg (hidT s₁.heap H) callerA [] s₁ H := ⟨rfl, hM, fun b o e => of_hidT e, Nat.le_of_eq (hidT_size _ _), trivial, fun b hb => absurd (show b ∈ ([] : List Addr) from hb) (by simp), hok, .of_eq hg⟩
    refine codeAny_mono ((F _ hKb (nsK (far _ (.inl rfl)) hns)).run callerA [] s₁ H ⟨[.ref a], []⟩ [.ref a] [.ref a] _ _ hr e0 (hbind s₁ (.ref a)) (.cons rfl .nil) (hsp H hO hS)) fun r s' h => ?_
    cases r with
    | error e => exact (hCX H e s' h).elim
    | ok fl =>
      cases fl with
      | next => exact False.elim h
      | brk => exact False.elim h
      | cont => exact False.elim h
      | ret u =>
        obtain ⟨v, H', os, bare, un, hok', r', q⟩ := h
        have q' : v = .bl true := q
        subst q'
        obtain rfl : u = Value.bool true := r'
        refine ⟨rfl, OldK.of_keep fun b o e => ?_, os, bare⟩
        cases q : H b with
        | none => exact un.keep b o e q (by intro z; exact absurd (show b ∈ ([] : List Addr) from z) (by simp)) (by simp)
        | some u =>
          obtain ⟨ob, u', rfl⟩ := hF b u q
          have z2 := un.frzs b ob _ q
          obtain ⟨e1, _⟩ := hok b _ q
          obtain ⟨e2, _⟩ := hok' b _ z2
          rw [e] at e1; cases e1
          exact e2
  have okC : ∀ (H : Hp) b p, C.lookup b = some p → ObjOk P w H s₁.heap b (.frz p.1 p.2) := fun H b p e => ⟨KX b _ (hC.at_ b p e), hC.ok b p e H _ (KX b _ (hC.at_ b p e))⟩
  have cN : ∀ {b u}, cHp C b = some u → ∃ p, C.lookup b = some p ∧ u = .frz p.1 p.2 := fun {b u} e => by
    unfold cHp at e
    cases q : C.lookup b with
    | none => rw [q] at e; cases e
    | some p => rw [q] at e; cases e; exact ⟨p, rfl, rfl⟩
  have cS : ∀ {b p}, C.lookup b = some p → cHp C b = some (.frz p.1 p.2) := fun {b p} e => by
    unfold cHp
    rw [e]
    rfl
  cases hk : K.lookup a with
  | some o =>
    have e := KX a o hk
    rw [ha] at e
    cases e
    have na : a ∉ C.map (·.1) := fun hm => by
      obtain ⟨p, hp⟩ := mem_map hm
      rw [aC] at hp
      cases hp
    refine core (cHp C) (fun b p e => cS e) (.inr ⟨_, vs.toArray, _, (lookup_drop na).trans hk, rfl, rfl, rfl, by rw [List.size_toArray, lenV]; exact hl, by simpa using rv⟩) (fun b u z => ?_) (fun b z => ?_) (fun b u z => ?_) fun z => ?_
    · obtain ⟨p, h1, rfl⟩ := cN z
      exact okC _ b p h1
    · cases q : cHp C b with
      | none => exact absurd q z
      | some u =>
        obtain ⟨p, h1, _⟩ := cN q
        exact .inr (map_mem h1)
    · obtain ⟨p, _, rfl⟩ := cN z
      exact ⟨_, _, rfl⟩
    · cases q : cHp C a with
      | none => exact absurd q z
      | some u =>
        obtain ⟨p, h1, _⟩ := cN q
        rw [aC] at h1
        cases h1
  | none =>
    have ne : ∀ {b p}, C.lookup b = some p → b ≠ a := fun {b p} e h => by
      rw [h, aC] at e
      cases e
    refine core (fun b => if b = a then some (.frz { cls := .type "list", data := .seq vs.toArray } (.lst (ns.map V.int))) else cHp C b) (fun b p e => ?_) (.inl (.inr ⟨{ cls := .type "list", data := .seq vs.toArray }, if_pos rfl⟩)) (fun b u z => ?_) (fun b z => ?_) (fun b u z => ?_) fun _ => hk
    · show (if b = a then _ else cHp C b) = _
      rw [if_neg (ne e)]
      exact cS e
    · by_cases hb : b = a
      · have z' := (if_pos hb).symm.trans z
        cases z'
        subst hb
        exact ⟨ha, by rw [List.length_map]; exact hl, vs, _, rv, ha⟩
      · have z' : cHp C b = some u := (if_neg hb).symm.trans z
        obtain ⟨p, h1, rfl⟩ := cN z'
        exact okC _ b p h1
    · by_cases hb : b = a
      · exact .inl hb
      · cases q : cHp C b with
        | none => exact absurd ((if_neg hb).trans q) z
        | some u =>
          obtain ⟨p, h1, _⟩ := cN q
          exact .inr (map_mem h1)
    · by_cases hb : b = a
      · have z' := (if_pos hb).symm.trans z
        cases z'
        exact ⟨_, _, rfl⟩
      · have z' : cHp C b = some u := (if_neg hb).symm.trans z
        obtain ⟨p, _, rfl⟩ := cN z'
        exact ⟨_, _, rfl⟩
/-- the goal that k_head leaves, from the law's promise over what is written but for the constants -/
theorem walk_ofC {l : PySem.W.OpenLaw} {n k : Nat} {q : Program} {loose : List Str} {XP : (Str → Option Value) → Heap → Prop} {YP : World → Heap → Prop} {d : DefRec} {K : Params → PySem.W.Frag} {CX : World → CXT} {x : Str}
    (hn : l.most = some n) (hn2 : n ≤ sizeLine) (hdf : d.params.defaults = []) (hr : Room k callerA)
    (hY : ∀ (w : World) (h : Heap), YP w h → (K w.params).In h)
    (F : ∀ (w : World) (mg : Str → Option Value) (fa : Addr) (h : Heap), (K w.params).In h → h.Ns mainGlobals mg → mg d.name = some (.ref fa) →
      ∃ (fd : FuncData) (C : Cns) (sp : Sp), CnsOk l.prog w (K w.params) C ∧ (∀ (s : Shared) (u : Value), BindsTo s fd ⟨[u], []⟩ [(x, u)]) ∧
        (∀ (H : Hp) (a : Addr) (ns : List Int), ns.length ≤ n → OnlyC C H → SqL (dropF (C.map (·.1)) (K w.params)) H a (ns.map V.int) → sp [.ref a] H (fun v _ => v = .bl true) fun _ _ _ => False) ∧
        ∀ base : Heap, (dropF (C.map (·.1)) (K w.params)).In base → base.Ns mainGlobals mg → FnOk l.prog w (dropF (C.map (·.1)) (K w.params)) mg base (CX w) k fa fd [x] sp)
    (hCX : ∀ (w : World) (H : Hp) (s : Shared) (e : Value) (s' : Shared), CX w [] H s (fun _ _ _ => False) e s' → False) :
    PySem.W.WalkO q loose XP YP l.row.toRowW d [] (fun f vs => PySem.call f vs) := by
  refine Att.attach_call hn hdf fun w s₀ s₁ mg mb fa o pm cd doc a vs ns G Y ho hd hcd hmg hobj hints hlen hg => ?_
  have KX := hY w _ Y
  obtain ⟨fd, C, sp, hC, hb, hsp, hF⟩ := F w mg fa _ KX G.T.g hmg
  exact law_callC KX hC G.T.g G.T.b G.T.builtins G.T.nolimit hg hobj hints (Nat.le_trans hlen hn2) hr hF hb (fun H hO hS => hsp H a ns hlen hO hS) fun H e s' => hCX w H s₁ e s'
end Lw

set_option Elab.async false
set_option linter.all false
set_option maxRecDepth 100000
set_option maxHeartbeats 2000000
/-! What a class has, where tuples of the top are hidden. -/
namespace Lw
open PySem PySem.Spec PyProof.Rows PySem.W
/-- only lists and tuples stand there -/
def SeqK (as : List Addr) (K : Frag) : Prop := ∀ a ∈ as, ∃ (oc : Value) (od : Option Addr) (its : Array Value) (n : Nat) (sl : Array (Option Value)), K.lookup a = some ⟨oc, od, .seq its n, sl⟩
theorem drop_none {as : List Addr} : ∀ {K : Frag} {a : Addr}, a ∈ as → (dropF as K).lookup a = none
  | [], a, _ => rfl
  | (b, o) :: K, a, h => by
    unfold dropF
    by_cases hb : b ∈ as
    · rw [List.filter_cons_of_neg (by rw [decide_eq_true hb]; decide)]
      exact drop_none (K := K) h
    · rw [List.filter_cons_of_pos (by rw [decide_eq_false hb]; decide), List.lookup_cons]
      have ne : (a == b) = false := beq_eq_false_iff_ne.mpr fun e => hb (e ▸ h)
      rw [ne]
      exact drop_none (K := K) h
section
variable {as : List Addr} {K : Frag} (h : SeqK as K)
include h
theorem look_or (a : Addr) : (dropF as K).lookup a = K.lookup a ∨ ((dropF as K).lookup a = none ∧ ∃ (oc : Value) (od : Option Addr) (its : Array Value) (n : Nat) (sl : Array (Option Value)), K.lookup a = some ⟨oc, od, .seq its n, sl⟩) := by
  by_cases ha : a ∈ as
  · exact .inr ⟨drop_none ha, h a ha⟩
  · exact .inl (lookup_drop ha)
theorem nsIn_drop (a : Addr) (x : Str) : nsIn (dropF as K) a x = nsIn K a x := by
  unfold nsIn
  rcases look_or h a with e | ⟨e, _, _, _, _, _, e2⟩
  · rw [e]
  · rw [e, e2]
theorem ownIn_drop (x : Str) (v : Value) : ownIn (dropF as K) x v = ownIn K x v := by
  cases v with
  | ref a =>
    show (match (dropF as K).lookup a with
      | some ⟨_, _, .cls cd, _⟩ => nsIn (dropF as K) cd.ns x
      | _ => none) = (match K.lookup a with
      | some ⟨_, _, .cls cd, _⟩ => nsIn K cd.ns x
      | _ => none)
    rcases look_or h a with e | ⟨e, _, _, _, _, _, e2⟩
    · rw [e]
      split
      · exact nsIn_drop h _ _
      · rfl
    · rw [e, e2]
  | _ => rfl
theorem alongIn_drop (x : Str) : ∀ l : List Value, alongIn (dropF as K) x l = alongIn K x l
  | [] => rfl
  | c :: r => by
    unfold alongIn
    rw [ownIn_drop h, alongIn_drop x r]
theorem findIn_drop (v : Value) (x : Str) : PySem.W.findIn (dropF as K) v x = PySem.W.findIn K v x := by
  cases v with
  | ref a =>
    show (match (dropF as K).lookup a with
      | some ⟨_, _, .cls cd, _⟩ => alongIn (dropF as K) x cd.mro
      | _ => none) = (match K.lookup a with
      | some ⟨_, _, .cls cd, _⟩ => alongIn K x cd.mro
      | _ => none)
    rcases look_or h a with e | ⟨e, _, _, _, _, _, e2⟩
    · rw [e]
      split
      · exact alongIn_drop h _ _
      · rfl
    · rw [e, e2]
  | _ => rfl
theorem clsIn_drop (a : Addr) : clsIn (dropF as K) a = clsIn K a := by
  unfold clsIn
  rcases look_or h a with e | ⟨e, _, _, _, _, _, e2⟩
  · rw [e]
  · rw [e, e2]
theorem plainGet_drop (a : Addr) (x : Str) : plainGet (dropF as K) a x = plainGet K a x := by
  unfold plainGet
  simp only [findIn_drop h]
theorem hasDictIn_drop (a : Addr) : hasDictIn (dropF as K) a = hasDictIn K a := by
  unfold hasDictIn
  rw [clsIn_drop h]
theorem plainOver_drop (a : Addr) : plainOver (dropF as K) a = plainOver K a := by
  unfold plainOver
  rw [clsIn_drop h]
theorem mroIn_drop (a : Addr) (v : Value) : mroIn (dropF as K) a v = mroIn K a v := by
  unfold mroIn
  rw [clsIn_drop h]
theorem specialIn_drop (v : Value) (x : Str) (hv : typeIn (dropF as K) v = typeIn K v) : specialIn (dropF as K) v x = specialIn K v x := by
  unfold specialIn
  rw [hv]
  simp only [findIn_drop h]
end
end Lw

set_option Elab.async false
set_option linter.all false
set_option maxRecDepth 100000
set_option maxHeartbeats 2000000
/-! What is written, but for the constants: defs stay; constants are what they are. -/
namespace Lw
open PySem PySem.Spec PyProof.Rows L2 PySem.W Lh
/-- a tuple or a dict -/
def isSD (o : Obj) : Bool := match o.data with
  | .seq _ _ => true
  | .dict _ _ => true
  | _ => false
def SD (as : List Addr) (K : Frag) : Prop := ∀ b ∈ as, ∃ o, K.lookup b = some o ∧ isSD o = true
theorem not_sd {as : List Addr} {K : Frag} (hd : SD as K) {f : Addr} {o : Obj} (h : K.lookup f = some o) (ho : isSD o = false) : f ∉ as := fun hf => by
  obtain ⟨o', e, h'⟩ := hd f hf
  rw [h] at e
  cases e
  rw [ho] at h'
  cases h'
theorem look_keep {as : List Addr} {K : Frag} (hd : SD as K) {f : Addr} {o : Obj} (h : K.lookup f = some o) (ho : isSD o = false) : (dropF as K).lookup f = some o := (lookup_drop (not_sd hd h ho)).trans h
theorem code_keep {as : List Addr} {K : Frag} (hd : SD as K) {cd : Value} {q : Str} (e : codeIn K cd q = true) : codeIn (dropF as K) cd q = true := by
  unfold codeIn at e ⊢
  split at e
  · rename_i c
    split at e
    · rename_i vs _ ho
      rw [look_keep hd ho rfl]
      exact e
    · cases e
  · cases e
theorem keep_keep {K : Frag} {f : Addr} {c : Value} {od : Option Addr} {fd : FuncData} {sl : Array (Option Value)} (h : K.lookup f = some ⟨c, od, .func fd, sl⟩) : keepIn K (.ref f) = true := by
  show (match K.lookup f with | some ⟨_, _, .func _, _⟩ => true | some ⟨_, _, .cls _, _⟩ => _ | _ => false) = true
  rw [h]
theorem cn_tup {P : Program} {w : World} {a : Addr} {od : Option Addr} {its : List Value} {n : Nat} {sl : Array (Option Value)} {xs : List V} (r : Vals xs its) (hl : xs.length ≤ sizeLine) (H : Hp) (h : Heap) (e : h.get? a = some ⟨.type "tuple", od, .seq its.toArray n, sl⟩) : ObjOk P w H h a (.tup xs) :=
  ⟨hl, its, r, _, e, rfl, n, rfl⟩
/-- the entries of a dict -/
inductive Ent (w : World) : List DictEntry → List (L2.Key × V) → Prop
  | nil : Ent w [] []
  | cons {e : DictEntry} {k : L2.Key} {v : V} {es : List DictEntry} {kvs : List (L2.Key × V)} : keyIs k e.key = true → e.hash = keyH w k → RelV v e.val → Ent w es kvs → Ent w (e :: es) ((k, v) :: kvs)
theorem Ent.pairs {P : Program} {w : World} {es : List DictEntry} {kvs : List (L2.Key × V)} (h : Ent w es kvs) : (∀ e ∈ es, ∃ k, (mixKind P w).is k e.key = true ∧ e.hash = (mixKind P w).hash k) ∧ ∃ vs, KV kvs vs ∧ Pairs (mixKind P w) es vs ∧ vs.map (·.1) = kvs.map (·.1) := by
  induction h with
  | nil => exact ⟨fun e h => absurd h List.not_mem_nil, [], .nil, .nil, rfl⟩
  | @cons e k v es kvs h1 h2 h3 _ ih =>
    obtain ⟨i1, vs, i2, i3, i4⟩ := ih
    refine ⟨fun e' he => ?_, (k, e.val) :: vs, .cons ⟨rfl, h3⟩ i2, .cons h1 rfl i3, by rw [List.map_cons, List.map_cons, i4]⟩
    rcases List.mem_cons.mp he with rfl | he
    · exact ⟨k, h1, h2⟩
    · exact i1 e' he
theorem cn_dct {P : Program} {w : World} {a : Addr} {es : List DictEntry} {ep : Nat} {kvs : List (L2.Key × V)} (r : Ent w es kvs) (nd : (kvs.map (·.1)).Nodup) (hl : kvs.length ≤ sizeLine) (hs : (a == sysModules) = false) (H : Hp) (h : Heap) (e : h.get? a = some ⟨.type "dict", none, .dict es.toArray ep, #[]⟩) : ObjOk P w H h a (.dK kvs) := by
  obtain ⟨h1, vs, h2, h3, h4⟩ := r.pairs (P := P)
  refine ⟨hl, hs, vs, h2, _, es.toArray, ep, e, ⟨rfl, rfl, rfl⟩, rfl, fun e' he => h1 e' (by simpa using he), by simpa using h3, ?_⟩
  rw [h4]
  exact nd
structure Cn1 (P : Program) (w : World) (K : Frag) (b : Addr) (o : Obj) (u : HO) : Prop where
  at_ : K.lookup b = some o
  ok : ∀ (H : Hp) (h : Heap), h.get? b = some o → ObjOk P w H h b u
  lst : o.cls ≠ .type "list"
  sd : isSD o = true
  far : b ≠ mainGlobals ∧ b ≠ builtinsNs ∧ b ≠ cStatics
def Cns1 (P : Program) (w : World) (K : Frag) : Cns → Prop
  | [] => True
  | (b, o, u) :: C => Cn1 P w K b o u ∧ Cns1 P w K C
theorem Cns1.all {P : Program} {w : World} {K : Frag} {C : Cns} : Cns1 P w K C → ∀ (b : Addr) (p : Obj × HO), C.lookup b = some p → Cn1 P w K b p.1 p.2 := by
  induction C with
  | nil =>
    intro _ b p e
    exact absurd e (by simp)
  | cons q C ih =>
    obtain ⟨a, o, u⟩ := q
    intro h b p e
    have h1 : Cn1 P w K a o u := h.1
    have h2 : Cns1 P w K C := h.2
    rw [List.lookup_cons] at e
    cases hb : b == a with
    | true =>
      rw [hb] at e
      have e2 : (o, u) = p := Option.some.inj e
      subst e2
      rw [beq_iff_eq.mp hb]
      exact h1
    | false =>
      rw [hb] at e
      exact ih h2 b p e
theorem Cns1.ok {P : Program} {w : World} {K : Frag} {C : Cns} (h : Cns1 P w K C) : CnsOk P w K C :=
  ⟨fun b p e => (h.all b p e).at_, fun b p e => (h.all b p e).ok, fun b p e => (h.all b p e).lst, fun b p e => (h.all b p e).far⟩
theorem Cns1.sd {P : Program} {w : World} {K : Frag} {C : Cns} (h : Cns1 P w K C) : SD (C.map (·.1)) K := fun b hb => by
  obtain ⟨p, hp⟩ := mem_map hb
  exact ⟨_, (h.all b p hp).at_, (h.all b p hp).sd⟩
theorem Cns1.far {P : Program} {w : World} {K : Frag} {C : Cns} (h : Cns1 P w K C) : mainGlobals ∉ C.map (·.1) := fun hb => by
  obtain ⟨p, hp⟩ := mem_map hb
  exact (h.all _ p hp).far.1 rfl
/-- nothing keeps off -/
abbrev noA : Addr → Prop := fun _ => False
theorem dq_tup {H : Hp} {C : Cns} (h : OnlyC C H) {a : Addr} {o : Obj} {xs : List V} {ds : List PyData} (e : C.lookup a = some (o, .tup xs)) (t : DqA noA H xs ds) (nz : Fz xs := by intro i r e; cases e) : Dq noA H (.ref a) (.tuple ds) := .tup (.inr ⟨nz, o, h a _ e⟩) (fun z => z) t
theorem dq_dct {H : Hp} {C : Cns} (h : OnlyC C H) {a : Addr} {o : Obj} {kvs : List (L2.Key × V)} {ds : List (PyData × PyData)} (e : C.lookup a = some (o, .dK kvs)) (t : DqA noA H (kvs.map fun z => kV z.1) (ds.map (·.1))) (u : DqA noA H (kvs.map (·.2)) (ds.map (·.2))) : Dq noA H (.ref a) (.dict ds) := .dct (.inr ⟨o, h a _ e⟩) (fun z => z) t u
theorem ne_tup : Value.type "tuple" ≠ Value.type "list" := fun z => by
  injection z with z
  exact absurd z (by decide)
theorem ne_dct : Value.type "dict" ≠ Value.type "list" := fun z => by
  injection z with z
  exact absurd z (by decide)
theorem lookup_nth {C : Cns} : ∀ {i : Nat} {b : Addr} {p : Obj × HO}, (C.map (·.1)).Nodup → C[i]? = some (b, p) → C.lookup b = some p := by
  induction C with
  | nil =>
    intro i b p _ h
    simp at h
  | cons q C ih =>
    intro i b p hn h
    rw [List.map_cons, List.nodup_cons] at hn
    obtain ⟨a, u⟩ := q
    cases i with
    | zero =>
      rw [List.getElem?_cons_zero] at h
      have e : (a, u) = (b, p) := Option.some.inj h
      injection e with e1 e2
      rw [List.lookup_cons, e1, beq_self_eq_true, e2]
    | succ i =>
      rw [List.getElem?_cons_succ] at h
      have hb : b ∈ C.map (·.1) := List.mem_map.mpr ⟨(b, p), List.mem_of_getElem? h, rfl⟩
      have ne : (b == a) = false := beq_eq_false_iff_ne.mpr fun e => hn.1 (e ▸ hb)
      rw [List.lookup_cons, ne]
      exact ih hn.2 h
end Lw

set_option Elab.async false
set_option linter.all false
set_option maxRecDepth 100000
set_option maxHeartbeats 2000000
/-! What a class must have to be made and asked for, where tuples of the top are hidden. -/
namespace Lw
open PySem PySem.Spec PyProof.Rows PySem.W L2
theorem SeqK.sd {as : List Addr} {K : Frag} (h : SeqK as K) : SD as K := fun b hb => by
  obtain ⟨oc, od, its, n, sl, e⟩ := h b hb
  exact ⟨_, e, rfl⟩
section
variable {as : List Addr} {K : Frag} (h : SeqK as K)
include h
theorem SeqK.out {a : Addr} {o : Obj} (e : K.lookup a = some o) (ho : isSD o = false) : a ∉ as := not_sd h.sd e ho
theorem typeIn_dropR {a : Addr} (ha : a ∉ as) : typeIn (dropF as K) (.ref a) = typeIn K (.ref a) := by
  show ((dropF as K).lookup a).map (·.cls) = (K.lookup a).map (·.cls)
  rw [lookup_drop ha]
theorem specialIn_dropR {a : Addr} (ha : a ∉ as) (x : Str) : specialIn (dropF as K) (.ref a) x = specialIn K (.ref a) x := specialIn_drop h _ x (typeIn_dropR h ha)
theorem specialIn_dropB (i : String) (x : Str) : specialIn (dropF as K) (.builtin i) x = specialIn K (.builtin i) x := specialIn_drop h _ x rfl
theorem takesIn_dropB (i : String) : takesIn (dropF as K) (.builtin i) = takesIn K (.builtin i) := by
  unfold takesIn
  rw [specialIn_dropB h, specialIn_dropB h]
theorem subIn_drop (t b : Value) : subIn (dropF as K) t b = subIn K t b := by
  cases t with
  | ref C => exact mroIn_drop h C b
  | _ => rfl
theorem instIn_dropR {a : Addr} (ha : a ∉ as) (b : Value) : instIn (dropF as K) (.ref a) b = instIn K (.ref a) b := by
  unfold instIn
  rw [typeIn_dropR h ha]
  congr 1
  funext t
  exact subIn_drop h t b
theorem makesIn_keep {C : Addr} (e : makesIn K C = true) : makesIn (dropF as K) C = true := by
  unfold makesIn at e ⊢
  split at e
  · rename_i oc od cd sl ho
    have hC : C ∉ as := h.out ho rfl
    rw [lookup_drop hC, ho]
    show (_ && _ && _ && _ && _ && _ && (specialIn (dropF as K) (.ref C) "__call__" == some (some (.builtin "type.__call__"))) && (instIn (dropF as K) (.ref C) (.type "type") == some true)) = true
    rw [specialIn_dropR h hC, instIn_dropR h hC]
    exact e
  · cases e
theorem makes_out {C : Addr} (e : makesIn K C = true) : C ∉ as := by
  unfold makesIn at e
  split at e
  · rename_i oc od cd sl ho
    exact h.out ho rfl
  · cases e
theorem isFn_keep {f : Addr} {o : Obj} (l : K.lookup f = some o) (ho : isSD o = false) (e : isFn K (.ref f) = true) : isFn (dropF as K) (.ref f) = true := by
  unfold isFn at e ⊢
  rw [typeIn_dropR h (h.out l ho)]
  exact e
theorem keepIn_keep {C : Addr} (e : keepIn K (.ref C) = true) : keepIn (dropF as K) (.ref C) = true := by
  have e0 := e
  change (match K.lookup C with | some ⟨_, _, .func _, _⟩ => true | some ⟨_, _, .cls _, _⟩ => specialIn K (.ref C) "__call__" == some (some (.builtin "type.__call__")) | _ => false) = true at e
  show (match (dropF as K).lookup C with | some ⟨_, _, .func _, _⟩ => true | some ⟨_, _, .cls _, _⟩ => specialIn (dropF as K) (.ref C) "__call__" == some (some (.builtin "type.__call__")) | _ => false) = true
  split at e
  · rename_i ho
    rw [lookup_drop (h.out ho rfl), ho]
  · rename_i ho
    have hC := h.out ho rfl
    rw [lookup_drop hC, ho]
    dsimp only
    rw [specialIn_dropR h hC]
    exact e
  · cases e
theorem insC_drop {C : Addr} (c : C8.InsC K C) : C8.InsC (dropF as K) C :=
  ⟨⟨(plainGet_drop h C _).trans c.cl.pg, (hasDictIn_drop h C).trans c.cl.hd, (plainOver_drop h C).trans c.cl.po, (findIn_drop h _ _).trans c.cl.sa⟩, (findIn_drop h _ _).trans c.ha, (specialIn_dropB h _ _).trans c.hn, (takesIn_dropB h _).trans c.htk, (mroIn_drop h C _).trans c.hm,
    if_pos (beq_self_eq_true _)⟩
theorem noAttr_drop {C : Addr} {f : Str} (n : NoAttr K C f) : NoAttr (dropF as K) C f := (findIn_drop h _ _).trans n
theorem mk_drop {C f : Addr} {o : Obj} (l : K.lookup f = some o) (ho : isSD o = false) (m : Mk K C f) : Mk (dropF as K) C f :=
  ⟨makesIn_keep h m.makes, (findIn_drop h _ _).trans m.init, isFn_keep h l ho m.fn, keepIn_keep h m.kp⟩
theorem meth_drop {C f : Addr} {x : Str} {o : Obj} (l : K.lookup f = some o) (ho : isSD o = false) (m : Meth K C x f) : Meth (dropF as K) C x f :=
  ⟨(findIn_drop h _ _).trans m.at_, isFn_keep h l ho m.fn, keepIn_keep h m.kp⟩
end
end Lw

set_option Elab.async false
set_option linter.all false
set_option maxRecDepth 100000
set_option maxHeartbeats 4000000
namespace K28
open PySem PySem.Spec PyProof.Rows L2 PySem.W Lh Vc Lw
theorem own_mk {w : World} {K : Frag} {h : Heap} {mg : Str → Option Value} {x : Str} {st : Stmt} {f : Addr} {oc kV doc pm cdv ct : Value} {od an : Option Addr} {sl : Array (Option Value)} {ps : List Str} {as : List Addr} (hd : SD as K) (X : K.In h) (G : h.Ns mainGlobals mg)
    (a : PySem.W.nsIn K mainGlobals x = some (some (.ref f))) (l : K.lookup f = some ⟨oc, od, .func (PySem.W.fnOf x x (defArgs st) (defBody st) (defScope st) .none kV doc pm an cdv ct), sl⟩) (c : PySem.W.codeIn K cdv x = true)
    (hb : ∀ (kV doc pm : Value) (an : Option Addr) (cdv ct : Value) (us : List Value), us.length = ps.length → bindArgs (PySem.W.fnOf x x (defArgs st) (defBody st) (defScope st) .none kV doc pm an cdv ct) ⟨us, []⟩ = pure (ps.zip us)) :
    Own (dropF as K) mg x st f (PySem.W.fnOf x x (defArgs st) (defBody st) (defScope st) .none kV doc pm an cdv ct) ps :=
  have l' := look_keep hd l rfl
  have F := fun_mk l' (code_keep hd c) (keep_keep l')
  ⟨F, PySem.W.mg_of X G a, F.binds hb⟩
theorem all_mk {l : PySem.W.OpenLaw} {w : World} {K : Frag} {h : Heap} {mg : Str → Option Value} {fa f1 f2 f3 f4 f5 f6 f7 f8 f9 f10 f11 f12 f13 f14 f15 f16 f17 f18 f19 f20 f21 f22 f23 f24 f25 f26 : Addr} (X : K.In h) (G : h.Ns mainGlobals mg) (hfa : mg "law" = some (.ref fa))
    {od1 an1 od2 an2 od3 an3 od4 an4 od5 an5 od6 an6 od7 an7 od8 an8 od9 an9 od10 an10 od11 an11 od12 an12 od13 an13 od14 an14 od15 an15 od16 an16 od17 an17 od18 an18 od19 an19 od20 an20 od21 an21 od22 an22 od23 an23 od24 an24 od25 an25 od26 an26 : Option Addr} {sl1 sl2 sl3 sl4 sl5 sl6 sl7 sl8 sl9 sl10 sl11 sl12 sl13 sl14 sl15 sl16 sl17 sl18 sl19 sl20 sl21 sl22 sl23 sl24 sl25 sl26 : Array (Option Value)} {oc1 kV1 dc1 pm1 cd1 ct1 oc2 kV2 dc2 pm2 cd2 ct2 oc3 kV3 dc3 pm3 cd3 ct3 oc4 kV4 dc4 pm4 cd4 ct4 oc5 kV5 dc5 pm5 cd5 ct5 oc6 kV6 dc6 pm6 cd6 ct6 oc7 kV7 dc7 pm7 cd7 ct7 oc8 kV8 dc8 pm8 cd8 ct8 oc9 kV9 dc9 pm9 cd9 ct9 oc10 kV10 dc10 pm10 cd10 ct10 oc11 kV11 dc11 pm11 cd11 ct11 oc12 kV12 dc12 pm12 cd12 ct12 oc13 kV13 dc13 pm13 cd13 ct13 oc14 kV14 dc14 pm14 cd14 ct14 oc15 kV15 dc15 pm15 cd15 ct15 oc16 kV16 dc16 pm16 cd16 ct16 oc17 kV17 dc17 pm17 cd17 ct17 oc18 kV18 dc18 pm18 cd18 ct18 oc19 kV19 dc19 pm19 cd19 ct19 oc20 kV20 dc20 pm20 cd20 ct20 oc21 kV21 dc21 pm21 cd21 ct21 oc22 kV22 dc22 pm22 cd22 ct22 oc23 kV23 dc23 pm23 cd23 ct23 oc24 kV24 dc24 pm24 cd24 ct24 oc25 kV25 dc25 pm25 cd25 ct25 oc26 kV26 dc26 pm26 cd26 ct26 : Value} {tk0 tk1 : Tok}
     
    (a1 : PySem.W.nsIn K mainGlobals "is_whole" = some (some (.ref f1))) (l1 : K.lookup f1 = some ⟨oc1, od1, .func (PySem.W.fnOf "is_whole" "is_whole" (defArgs s_is_whole) (defBody s_is_whole) (defScope s_is_whole) .none kV1 dc1 pm1 an1 cd1 ct1), sl1⟩) (c1 : PySem.W.codeIn K cd1 "is_whole" = true)
    (a2 : PySem.W.nsIn K mainGlobals "is_letters" = some (some (.ref f2))) (l2 : K.lookup f2 = some ⟨oc2, od2, .func (PySem.W.fnOf "is_letters" "is_letters" (defArgs s_is_letters) (defBody s_is_letters) (defScope s_is_letters) .none kV2 dc2 pm2 an2 cd2 ct2), sl2⟩) (c2 : PySem.W.codeIn K cd2 "is_letters" = true)
    (a3 : PySem.W.nsIn K mainGlobals "is_rising" = some (some (.ref f3))) (l3 : K.lookup f3 = some ⟨oc3, od3, .func (PySem.W.fnOf "is_rising" "is_rising" (defArgs s_is_rising) (defBody s_is_rising) (defScope s_is_rising) .none kV3 dc3 pm3 an3 cd3 ct3), sl3⟩) (c3 : PySem.W.codeIn K cd3 "is_rising" = true)
    (a4 : PySem.W.nsIn K mainGlobals "is_name" = some (some (.ref f4))) (l4 : K.lookup f4 = some ⟨oc4, od4, .func (PySem.W.fnOf "is_name" "is_name" (defArgs s_is_name) (defBody s_is_name) (defScope s_is_name) .none kV4 dc4 pm4 an4 cd4 ct4), sl4⟩) (c4 : PySem.W.codeIn K cd4 "is_name" = true)
    (a5 : PySem.W.nsIn K mainGlobals "is_fraction" = some (some (.ref f5))) (l5 : K.lookup f5 = some ⟨oc5, od5, .func (PySem.W.fnOf "is_fraction" "is_fraction" (defArgs s_is_fraction) (defBody s_is_fraction) (defScope s_is_fraction) .none kV5 dc5 pm5 an5 cd5 ct5), sl5⟩) (c5 : PySem.W.codeIn K cd5 "is_fraction" = true)
    (a6 : PySem.W.nsIn K mainGlobals "_lowest" = some (some (.ref f6))) (l6 : K.lookup f6 = some ⟨oc6, od6, .func (PySem.W.fnOf "_lowest" "_lowest" (defArgs s_lowest) (defBody s_lowest) (defScope s_lowest) .none kV6 dc6 pm6 an6 cd6 ct6), sl6⟩) (c6 : PySem.W.codeIn K cd6 "_lowest" = true)
    (a7 : PySem.W.nsIn K mainGlobals "_sum" = some (some (.ref f7))) (l7 : K.lookup f7 = some ⟨oc7, od7, .func (PySem.W.fnOf "_sum" "_sum" (defArgs s_sum) (defBody s_sum) (defScope s_sum) .none kV7 dc7 pm7 an7 cd7 ct7), sl7⟩) (c7 : PySem.W.codeIn K cd7 "_sum" = true)
    (a8 : PySem.W.nsIn K mainGlobals "_rest" = some (some (.ref f8))) (l8 : K.lookup f8 = some ⟨oc8, od8, .func (PySem.W.fnOf "_rest" "_rest" (defArgs s_rest) (defBody s_rest) (defScope s_rest) .none kV8 dc8 pm8 an8 cd8 ct8), sl8⟩) (c8 : PySem.W.codeIn K cd8 "_rest" = true)
    (a9 : PySem.W.nsIn K mainGlobals "_is_part" = some (some (.ref f9))) (l9 : K.lookup f9 = some ⟨oc9, od9, .func (PySem.W.fnOf "_is_part" "_is_part" (defArgs s_is_part) (defBody s_is_part) (defScope s_is_part) .none kV9 dc9 pm9 an9 cd9 ct9), sl9⟩) (c9 : PySem.W.codeIn K cd9 "_is_part" = true)
    (a10 : PySem.W.nsIn K mainGlobals "is_holding" = some (some (.ref f10))) (l10 : K.lookup f10 = some ⟨oc10, od10, .func (PySem.W.fnOf "is_holding" "is_holding" (defArgs s_is_holding) (defBody s_is_holding) (defScope s_is_holding) .none kV10 dc10 pm10 an10 cd10 ct10), sl10⟩) (c10 : PySem.W.codeIn K cd10 "is_holding" = true)
    (a11 : PySem.W.nsIn K mainGlobals "sole" = some (some (.ref f11))) (l11 : K.lookup f11 = some ⟨oc11, od11, .func (PySem.W.fnOf "sole" "sole" (defArgs s_sole) (defBody s_sole) (defScope s_sole) .none kV11 dc11 pm11 an11 cd11 ct11), sl11⟩) (c11 : PySem.W.codeIn K cd11 "sole" = true)
    (a12 : PySem.W.nsIn K mainGlobals "held" = some (some (.ref f12))) (l12 : K.lookup f12 = some ⟨oc12, od12, .func (PySem.W.fnOf "held" "held" (defArgs s_held) (defBody s_held) (defScope s_held) .none kV12 dc12 pm12 an12 cd12 ct12), sl12⟩) (c12 : PySem.W.codeIn K cd12 "held" = true)
    (a13 : PySem.W.nsIn K mainGlobals "passed" = some (some (.ref f13))) (l13 : K.lookup f13 = some ⟨oc13, od13, .func (PySem.W.fnOf "passed" "passed" (defArgs s_passed) (defBody s_passed) (defScope s_passed) .none kV13 dc13 pm13 an13 cd13 ct13), sl13⟩) (c13 : PySem.W.codeIn K cd13 "passed" = true)
    (a14 : PySem.W.nsIn K mainGlobals "_law_begun" = some (some (.ref f14))) (l14 : K.lookup f14 = some ⟨oc14, od14, .func (PySem.W.fnOf "_law_begun" "_law_begun" (defArgs s_law_begun) (defBody s_law_begun) (defScope s_law_begun) .none kV14 dc14 pm14 an14 cd14 ct14), sl14⟩) (c14 : PySem.W.codeIn K cd14 "_law_begun" = true)
    (a15 : PySem.W.nsIn K mainGlobals "_law_mixed" = some (some (.ref f15))) (l15 : K.lookup f15 = some ⟨oc15, od15, .func (PySem.W.fnOf "_law_mixed" "_law_mixed" (defArgs s_law_mixed) (defBody s_law_mixed) (defScope s_law_mixed) .none kV15 dc15 pm15 an15 cd15 ct15), sl15⟩) (c15 : PySem.W.codeIn K cd15 "_law_mixed" = true)
    (a16 : PySem.W.nsIn K mainGlobals "_law_take" = some (some (.ref f16))) (l16 : K.lookup f16 = some ⟨oc16, od16, .func (PySem.W.fnOf "_law_take" "_law_take" (defArgs s_law_take) (defBody s_law_take) (defScope s_law_take) .none kV16 dc16 pm16 an16 cd16 ct16), sl16⟩) (c16 : PySem.W.codeIn K cd16 "_law_take" = true)
    (a17 : PySem.W.nsIn K mainGlobals "_law_pick" = some (some (.ref f17))) (l17 : K.lookup f17 = some ⟨oc17, od17, .func (PySem.W.fnOf "_law_pick" "_law_pick" (defArgs s_law_pick) (defBody s_law_pick) (defScope s_law_pick) .none kV17 dc17 pm17 an17 cd17 ct17), sl17⟩) (c17 : PySem.W.codeIn K cd17 "_law_pick" = true)
    (a18 : PySem.W.nsIn K mainGlobals "_law_names" = some (some (.ref f18))) (l18 : K.lookup f18 = some ⟨oc18, od18, .func (PySem.W.fnOf "_law_names" "_law_names" (defArgs s_law_names) (defBody s_law_names) (defScope s_law_names) .none kV18 dc18 pm18 an18 cd18 ct18), sl18⟩) (c18 : PySem.W.codeIn K cd18 "_law_names" = true)
    (a19 : PySem.W.nsIn K mainGlobals "_law_shared" = some (some (.ref f19))) (l19 : K.lookup f19 = some ⟨oc19, od19, .func (PySem.W.fnOf "_law_shared" "_law_shared" (defArgs s_law_shared) (defBody s_law_shared) (defScope s_law_shared) .none kV19 dc19 pm19 an19 cd19 ct19), sl19⟩) (c19 : PySem.W.codeIn K cd19 "_law_shared" = true)
    (a20 : PySem.W.nsIn K mainGlobals "_law_lowest" = some (some (.ref f20))) (l20 : K.lookup f20 = some ⟨oc20, od20, .func (PySem.W.fnOf "_law_lowest" "_law_lowest" (defArgs s_law_lowest) (defBody s_law_lowest) (defScope s_law_lowest) .none kV20 dc20 pm20 an20 cd20 ct20), sl20⟩) (c20 : PySem.W.codeIn K cd20 "_law_lowest" = true)
    (a21 : PySem.W.nsIn K mainGlobals "_law_fraction" = some (some (.ref f21))) (l21 : K.lookup f21 = some ⟨oc21, od21, .func (PySem.W.fnOf "_law_fraction" "_law_fraction" (defArgs s_law_fraction) (defBody s_law_fraction) (defScope s_law_fraction) .none kV21 dc21 pm21 an21 cd21 ct21), sl21⟩) (c21 : PySem.W.codeIn K cd21 "_law_fraction" = true)
    (a22 : PySem.W.nsIn K mainGlobals "_law_tried" = some (some (.ref f22))) (l22 : K.lookup f22 = some ⟨oc22, od22, .func (PySem.W.fnOf "_law_tried" "_law_tried" (defArgs s_law_tried) (defBody s_law_tried) (defScope s_law_tried) .none kV22 dc22 pm22 an22 cd22 ct22), sl22⟩) (c22 : PySem.W.codeIn K cd22 "_law_tried" = true)
    (a23 : PySem.W.nsIn K mainGlobals "_law_others_stay" = some (some (.ref f23))) (l23 : K.lookup f23 = some ⟨oc23, od23, .func (PySem.W.fnOf "_law_others_stay" "_law_others_stay" (defArgs s_law_others_stay) (defBody s_law_others_stay) (defScope s_law_others_stay) .none kV23 dc23 pm23 an23 cd23 ct23), sl23⟩) (c23 : PySem.W.codeIn K cd23 "_law_others_stay" = true)
    (a24 : PySem.W.nsIn K mainGlobals "_law_halves" = some (some (.ref f24))) (l24 : K.lookup f24 = some ⟨oc24, od24, .func (PySem.W.fnOf "_law_halves" "_law_halves" (defArgs s_law_halves) (defBody s_law_halves) (defScope s_law_halves) .none kV24 dc24 pm24 an24 cd24 ct24), sl24⟩) (c24 : PySem.W.codeIn K cd24 "_law_halves" = true)
    (a25 : PySem.W.nsIn K mainGlobals "_law_step_right" = some (some (.ref f25))) (l25 : K.lookup f25 = some ⟨oc25, od25, .func (PySem.W.fnOf "_law_step_right" "_law_step_right" (defArgs s_law_step_right) (defBody s_law_step_right) (defScope s_law_step_right) .none kV25 dc25 pm25 an25 cd25 ct25), sl25⟩) (c25 : PySem.W.codeIn K cd25 "_law_step_right" = true)
    (a26 : PySem.W.nsIn K mainGlobals "law" = some (some (.ref f26))) (l26 : K.lookup f26 = some ⟨oc26, od26, .func (PySem.W.fnOf "law" "law" (defArgs s_law) (defBody s_law) (defScope s_law) .none kV26 dc26 pm26 an26 cd26 ct26), sl26⟩) (c26 : PySem.W.codeIn K cd26 "law" = true)
    (ug0 : PySem.W.nsIn K mainGlobals "NoShare" = some (some (.ref 65)))
    (uq0 : PySem.W.excIn K 65 [.type "ValueError", .type "Exception", .type "BaseException", .type "object"] "ValueError.__new__" = true)
    (uk0 : PySem.W.keepIn K (.ref 65) = true)
    (ub0 : PySem.W.subIn K (.ref 65) (.type "BaseException") = some true)
    (ut0 : PySem.W.typeIn K (.ref 65) = some (.type "type"))
    (um0_0 : PySem.W.exmOne K (.ref 65) (.ref 65) = some true)
    (z0 : PySem.W.nsIn K mainGlobals "all" = some none)
    (z1 : PySem.W.nsIn K mainGlobals "bool" = some none)
    (z2 : PySem.W.nsIn K mainGlobals "int" = some none)
    (z3 : PySem.W.nsIn K mainGlobals "isinstance" = some none)
    (z4 : PySem.W.nsIn K mainGlobals "len" = some none)
    (z5 : PySem.W.nsIn K mainGlobals "list" = some none)
    (z6 : PySem.W.nsIn K mainGlobals "min" = some none)
    (z7 : PySem.W.nsIn K mainGlobals "range" = some none)
    (z8 : PySem.W.nsIn K mainGlobals "sorted" = some none)
    (z9 : PySem.W.nsIn K mainGlobals "str" = some none)
    (z10 : PySem.W.nsIn K mainGlobals "tuple" = some none)
    (z11 : PySem.W.nsIn K mainGlobals "zip" = some none)
    (mg1 : PySem.W.nsIn K mainGlobals "gcd" = some (some (.builtin "math.gcd")))
    (y0 : PySem.W.nsIn K mainGlobals "_LETTERS" = some (some (.str "abcdefghijklmnopqrstuvwxyz" tk0)))
    (y1 : PySem.W.nsIn K mainGlobals "_MOST_HOLDERS" = some (some (.int (12) tk1)))
    : ∃ (fd : FuncData) (C : Cns) (sp : L2.Sp), CnsOk l.prog w K C ∧ (∀ (s : Shared) (v : Value), BindsTo s fd ⟨[v], []⟩ [("script", v)]) ∧
      (∀ (H : Hp) (a : Addr) (ns : List Int), ns.length ≤ 63 → OnlyC C H → SqL (dropF (C.map (·.1)) K) H a (ns.map V.int) → sp [.ref a] H (fun v _ => v = .bl true) fun _ _ _ => False) ∧
      ∀ base : Heap, (dropF (C.map (·.1)) K).In base → base.Ns mainGlobals mg → FnOk l.prog w (dropF (C.map (·.1)) K) mg base CX0 7 fa fd ["script"] sp := by
  have e := hfa.symm.trans (PySem.W.mg_of X G a26)
  cases e
  obtain ⟨C, hC⟩ : ∃ C : Cns, C = [] := ⟨_, rfl⟩
  have hm : C.map (·.1) = [] := by rw [hC]; rfl
  have cn : Cns1 l.prog w K C := by rw [hC]; exact trivial
  have hd : SD (C.map (·.1)) K := cn.sd
  have T : Tb mg []  := { z_all := PySem.W.mg_none_of X G z0, z_bool := PySem.W.mg_none_of X G z1, z_int := PySem.W.mg_none_of X G z2, z_isinstance := PySem.W.mg_none_of X G z3, z_len := PySem.W.mg_none_of X G z4, z_list := PySem.W.mg_none_of X G z5, z_min := PySem.W.mg_none_of X G z6, z_range := PySem.W.mg_none_of X G z7, z_sorted := PySem.W.mg_none_of X G z8, z_str := PySem.W.mg_none_of X G z9, z_tuple := PySem.W.mg_none_of X G z10, z_zip := PySem.W.mg_none_of X G z11, m_gcd := PySem.W.mg_of X G mg1, c__LETTERS := ⟨_, PySem.W.mg_of X G y0⟩, c__MOST_HOLDERS := ⟨_, PySem.W.mg_of X G y1⟩ }
  have eK : dropF (C.map (·.1)) K = K := by rw [hm]; exact List.filter_eq_self.mpr fun p _ => rfl
  have mu_NoShare : ∀ p ∈ ([(eNoShare, true)] : List (Addr × Bool)), PySem.W.exmOne (dropF (C.map (·.1)) K) (.ref p.1) (.ref eNoShare) = some p.2 := by
    intro p hp
    rw [eK]
    simp only [List.mem_cons, List.not_mem_nil, or_false] at hp
    rcases hp with rfl
    · exact um0_0
  have U : Kb (dropF (C.map (·.1)) K) mg := { e_NoShare := ⟨PySem.W.mg_of X G ug0, (by rw [eK]; exact uq0), (by rw [eK]; exact uk0), (by rw [eK]; exact ub0), (by rw [eK]; exact ut0)⟩, m_NoShare := mu_NoShare }
  have O_is_whole : Own (dropF (C.map (·.1)) K) mg "is_whole" s_is_whole _ _ ["thing"] := own_mk (w := w) hd X G a1 l1 c1 fun _ _ _ _ _ _ us hl => match us, hl with | [_], _ => rfl
  have O_is_letters : Own (dropF (C.map (·.1)) K) mg "is_letters" s_is_letters _ _ ["thing", "most"] := own_mk (w := w) hd X G a2 l2 c2 fun _ _ _ _ _ _ us hl => match us, hl with | [_, _], _ => rfl
  have O_is_rising : Own (dropF (C.map (·.1)) K) mg "is_rising" s_is_rising _ _ ["things"] := own_mk (w := w) hd X G a3 l3 c3 fun _ _ _ _ _ _ us hl => match us, hl with | [_], _ => rfl
  have O_is_name : Own (dropF (C.map (·.1)) K) mg "is_name" s_is_name _ _ ["thing"] := own_mk (w := w) hd X G a4 l4 c4 fun _ _ _ _ _ _ us hl => match us, hl with | [_], _ => rfl
  have O_is_fraction : Own (dropF (C.map (·.1)) K) mg "is_fraction" s_is_fraction _ _ ["thing"] := own_mk (w := w) hd X G a5 l5 c5 fun _ _ _ _ _ _ us hl => match us, hl with | [_], _ => rfl
  have O_lowest : Own (dropF (C.map (·.1)) K) mg "_lowest" s_lowest _ _ ["n", "d"] := own_mk (w := w) hd X G a6 l6 c6 fun _ _ _ _ _ _ us hl => match us, hl with | [_, _], _ => rfl
  have O_sum : Own (dropF (C.map (·.1)) K) mg "_sum" s_sum _ _ ["one", "other"] := own_mk (w := w) hd X G a7 l7 c7 fun _ _ _ _ _ _ us hl => match us, hl with | [_, _], _ => rfl
  have O_rest : Own (dropF (C.map (·.1)) K) mg "_rest" s_rest _ _ ["one", "other"] := own_mk (w := w) hd X G a8 l8 c8 fun _ _ _ _ _ _ us hl => match us, hl with | [_, _], _ => rfl
  have O_is_part : Own (dropF (C.map (·.1)) K) mg "_is_part" s_is_part _ _ ["thing"] := own_mk (w := w) hd X G a9 l9 c9 fun _ _ _ _ _ _ us hl => match us, hl with | [_], _ => rfl
  have O_is_holding : Own (dropF (C.map (·.1)) K) mg "is_holding" s_is_holding _ _ ["thing"] := own_mk (w := w) hd X G a10 l10 c10 fun _ _ _ _ _ _ us hl => match us, hl with | [_], _ => rfl
  have O_sole : Own (dropF (C.map (·.1)) K) mg "sole" s_sole _ _ ["name"] := own_mk (w := w) hd X G a11 l11 c11 fun _ _ _ _ _ _ us hl => match us, hl with | [_], _ => rfl
  have O_held : Own (dropF (C.map (·.1)) K) mg "held" s_held _ _ ["holding", "name"] := own_mk (w := w) hd X G a12 l12 c12 fun _ _ _ _ _ _ us hl => match us, hl with | [_, _], _ => rfl
  have O_passed : Own (dropF (C.map (·.1)) K) mg "passed" s_passed _ _ ["holding", "giver", "taker", "part"] := own_mk (w := w) hd X G a13 l13 c13 fun _ _ _ _ _ _ us hl => match us, hl with | [_, _, _, _], _ => rfl
  have O_law_begun : Own (dropF (C.map (·.1)) K) mg "_law_begun" s_law_begun _ _ ["script"] := own_mk (w := w) hd X G a14 l14 c14 fun _ _ _ _ _ _ us hl => match us, hl with | [_], _ => rfl
  have O_law_mixed : Own (dropF (C.map (·.1)) K) mg "_law_mixed" s_law_mixed _ _ ["state"] := own_mk (w := w) hd X G a15 l15 c15 fun _ _ _ _ _ _ us hl => match us, hl with | [_], _ => rfl
  have O_law_take : Own (dropF (C.map (·.1)) K) mg "_law_take" s_law_take _ _ ["state", "many"] := own_mk (w := w) hd X G a16 l16 c16 fun _ _ _ _ _ _ us hl => match us, hl with | [_, _], _ => rfl
  have O_law_pick : Own (dropF (C.map (·.1)) K) mg "_law_pick" s_law_pick _ _ ["state", "some"] := own_mk (w := w) hd X G a17 l17 c17 fun _ _ _ _ _ _ us hl => match us, hl with | [_, _], _ => rfl
  have O_law_names : Own (dropF (C.map (·.1)) K) mg "_law_names" s_law_names _ _ ["state", "many"] := own_mk (w := w) hd X G a18 l18 c18 fun _ _ _ _ _ _ us hl => match us, hl with | [_, _], _ => rfl
  have O_law_shared : Own (dropF (C.map (·.1)) K) mg "_law_shared" s_law_shared _ _ ["one", "other"] := own_mk (w := w) hd X G a19 l19 c19 fun _ _ _ _ _ _ us hl => match us, hl with | [_, _], _ => rfl
  have O_law_lowest : Own (dropF (C.map (·.1)) K) mg "_law_lowest" s_law_lowest _ _ ["upper", "below"] := own_mk (w := w) hd X G a20 l20 c20 fun _ _ _ _ _ _ us hl => match us, hl with | [_, _], _ => rfl
  have O_law_fraction : Own (dropF (C.map (·.1)) K) mg "_law_fraction" s_law_fraction _ _ ["state"] := own_mk (w := w) hd X G a21 l21 c21 fun _ _ _ _ _ _ us hl => match us, hl with | [_], _ => rfl
  have O_law_tried : Own (dropF (C.map (·.1)) K) mg "_law_tried" s_law_tried _ _ ["rows", "first", "second", "part"] := own_mk (w := w) hd X G a22 l22 c22 fun _ _ _ _ _ _ us hl => match us, hl with | [_, _, _, _], _ => rfl
  have O_law_others_stay : Own (dropF (C.map (·.1)) K) mg "_law_others_stay" s_law_others_stay _ _ ["rows", "found", "names"] := own_mk (w := w) hd X G a23 l23 c23 fun _ _ _ _ _ _ us hl => match us, hl with | [_, _, _], _ => rfl
  have O_law_halves : Own (dropF (C.map (·.1)) K) mg "_law_halves" s_law_halves _ _ ["rows", "first", "second", "part"] := own_mk (w := w) hd X G a24 l24 c24 fun _ _ _ _ _ _ us hl => match us, hl with | [_, _, _, _], _ => rfl
  have O_law_step_right : Own (dropF (C.map (·.1)) K) mg "_law_step_right" s_law_step_right _ _ ["state", "rows", "names", "found", "deal"] := own_mk (w := w) hd X G a25 l25 c25 fun _ _ _ _ _ _ us hl => match us, hl with | [_, _, _, _, _], _ => rfl
  have O_law : Own (dropF (C.map (·.1)) K) mg "law" s_law _ _ ["script"] := own_mk (w := w) hd X G a26 l26 c26 fun _ _ _ _ _ _ us hl => match us, hl with | [_], _ => rfl
  refine ⟨PySem.W.fnOf "law" "law" (defArgs s_law) (defBody s_law) (defScope s_law) .none kV26 dc26 pm26 an26 cd26 ct26, C, spLaw (dropF (C.map (·.1)) K) [], cn.ok, fun s v => .of_eq rfl, fun H a ns hl ho hS => ⟨a, ns, rfl, hS, hl, fun c hc => ?_, fun _ => rfl⟩, fun base _ _ => ?_⟩
  · simp only [List.mem_cons, List.not_mem_nil, or_false] at hc
  have hcs : ∀ S, ΦA [] S → S.cs = [] := fun S h => by obtain ⟨p, g, c, rfl⟩ := h; rfl
  have G_is_whole := fn_is_whole (P := l.prog) (w := w) (base := base) (cs := []) T U O_is_whole 
  have G_is_letters := fn_is_letters (P := l.prog) (w := w) (base := base) (cs := []) T U O_is_letters 
  have G_is_rising := fn_is_rising (P := l.prog) (w := w) (base := base) (cs := []) T U O_is_rising 
  have G_is_name := fn_is_name (P := l.prog) (w := w) (base := base) (cs := []) T U O_is_name O_is_letters G_is_letters
  have G_is_fraction := fn_is_fraction (P := l.prog) (w := w) (base := base) (cs := []) T U O_is_fraction O_is_whole G_is_whole
  have G_lowest := fn_lowest (P := l.prog) (w := w) (base := base) (cs := []) T U O_lowest 
  have G_sum := fn_sum (P := l.prog) (w := w) (base := base) (cs := []) T U O_sum O_lowest G_lowest
  have G_rest := fn_rest (P := l.prog) (w := w) (base := base) (cs := []) T U O_rest O_lowest G_lowest
  have G_is_part := fn_is_part (P := l.prog) (w := w) (base := base) (cs := []) T U O_is_part O_is_name G_is_name O_is_fraction G_is_fraction
  have G_is_holding := fn_is_holding (P := l.prog) (w := w) (base := base) (cs := []) T U O_is_holding O_is_part G_is_part O_is_rising G_is_rising O_sum G_sum
  have G_sole := fn_sole (P := l.prog) (w := w) (base := base) (cs := []) T U O_sole 
  have G_held := fn_held (P := l.prog) (w := w) (base := base) (cs := []) T U O_held 
  have G_passed := fn_passed (P := l.prog) (w := w) (base := base) (cs := []) T U O_passed O_is_name G_is_name O_is_fraction G_is_fraction O_rest G_rest O_sum G_sum
  have G_law_begun := ok_law_begun (P := l.prog) (w := w) (base := base) T.z_list O_law_begun
  have G_law_take := ok_law_take (P := l.prog) (w := w) (base := base) (cs0 := []) O_law_take O_law_mixed
  have G_law_pick := fn_law_pick (P := l.prog) (w := w) (base := base) (cs := []) (Φ := ΦA []) hcs T U O_law_pick O_law_take G_law_take
  have G_law_names := fn_law_names (P := l.prog) (w := w) (base := base) (cs := []) (Φ := ΦA []) hcs T U O_law_names O_law_pick G_law_pick O_law_take G_law_take
  have G_law_shared := fn_law_shared (P := l.prog) (w := w) (base := base) (cs := []) T U O_law_shared 
  have G_law_lowest := fn_law_lowest (P := l.prog) (w := w) (base := base) (cs := []) T U O_law_lowest O_law_shared G_law_shared
  have G_law_fraction := fn_law_fraction (P := l.prog) (w := w) (base := base) (cs := []) (Φ := ΦA []) hcs T U O_law_fraction O_law_take G_law_take O_law_lowest G_law_lowest
  have G_law_tried := fn_law_tried (P := l.prog) (w := w) (base := base) (cs := []) T U O_law_tried O_passed G_passed
  have G_law_others_stay := fn_law_others_stay (P := l.prog) (w := w) (base := base) (cs := []) T U O_law_others_stay 
  have G_law_halves := fn_law_halves (P := l.prog) (w := w) (base := base) (cs := []) T U O_law_halves O_law_lowest G_law_lowest O_law_tried G_law_tried
  have G_law_step_right := fn_law_step_right (P := l.prog) (w := w) (base := base) (cs := []) (Φ := ΦA []) hcs T U O_law_step_right O_is_holding G_is_holding O_law_others_stay G_law_others_stay O_passed G_passed O_law_halves G_law_halves O_held G_held
  exact fn_law (P := l.prog) (w := w) (base := base) T U O_law O_law_begun G_law_begun O_law_names G_law_names O_sole G_sole O_law_pick G_law_pick O_held G_held O_law_lowest G_law_lowest O_law_take G_law_take O_law_fraction G_law_fraction O_law_tried G_law_tried O_law_step_right G_law_step_right O_passed G_passed O_is_holding G_is_holding w_law
end K28

set_option Elab.async false
set_option linter.all false
set_option maxRecDepth 100000
set_option maxHeartbeats 4000000
open PySem PySem.W PyProof.Rows
set_option maxHeartbeats 0 in
theorem PySem.Challenge.cw_lothouse_k28_whole_shares_are_one_holds : PySem.Challenge.rw_lothouse_k28_whole_shares_are_one.Holds := by
  w_on; o_law; k_head; (case hw => w_witness2)
  k_fill
  refine Lw.walk_ofC (l := PySem.Challenge.rw_lothouse_k28_whole_shares_are_one) (n := 63) (k := 7) (x := "script") (CX := fun _ => L2.CX0) rfl (by decide) rfl ⟨rfl, by decide, by decide⟩ (fun w h Y => PySem.W.kIn_of Y) ?F (fun _ _ _ _ _ h => h)
  case F =>
    intro w mg fa h KX G hmg
    refine' K28.all_mk KX G hmg ?a1 ?l1 ?c1 ?a2 ?l2 ?c2 ?a3 ?l3 ?c3 ?a4 ?l4 ?c4 ?a5 ?l5 ?c5 ?a6 ?l6 ?c6 ?a7 ?l7 ?c7 ?a8 ?l8 ?c8 ?a9 ?l9 ?c9 ?a10 ?l10 ?c10 ?a11 ?l11 ?c11 ?a12 ?l12 ?c12 ?a13 ?l13 ?c13 ?a14 ?l14 ?c14 ?a15 ?l15 ?c15 ?a16 ?l16 ?c16 ?a17 ?l17 ?c17 ?a18 ?l18 ?c18 ?a19 ?l19 ?c19 ?a20 ?l20 ?c20 ?a21 ?l21 ?c21 ?a22 ?l22 ?c22 ?a23 ?l23 ?c23 ?a24 ?l24 ?c24 ?a25 ?l25 ?c25 ?a26 ?l26 ?c26 ?ug0 ?uq0 ?uk0 ?ub0 ?ut0 ?um0_0 ?z0 ?z1 ?z2 ?z3 ?z4 ?z5 ?z6 ?z7 ?z8 ?z9 ?z10 ?z11 ?mg1 ?y0 ?y1
    (case a1 => k_is); (case l1 => k_is); (case c1 => k_is); (case a2 => k_is); (case l2 => k_is); (case c2 => k_is); (case a3 => k_is); (case l3 => k_is); (case c3 => k_is); (case a4 => k_is); (case l4 => k_is); (case c4 => k_is); (case a5 => k_is); (case l5 => k_is); (case c5 => k_is); (case a6 => k_is); (case l6 => k_is); (case c6 => k_is); (case a7 => k_is); (case l7 => k_is); (case c7 => k_is); (case a8 => k_is); (case l8 => k_is); (case c8 => k_is); (case a9 => k_is); (case l9 => k_is); (case c9 => k_is); (case a10 => k_is); (case l10 => k_is); (case c10 => k_is); (case a11 => k_is); (case l11 => k_is); (case c11 => k_is); (case a12 => k_is); (case l12 => k_is); (case c12 => k_is); (case a13 => k_is); (case l13 => k_is); (case c13 => k_is); (case a14 => k_is); (case l14 => k_is); (case c14 => k_is); (case a15 => k_is); (case l15 => k_is); (case c15 => k_is); (case a16 => k_is); (case l16 => k_is); (case c16 => k_is); (case a17 => k_is); (case l17 => k_is); (case c17 => k_is); (case a18 => k_is); (case l18 => k_is); (case c18 => k_is); (case a19 => k_is); (case l19 => k_is); (case c19 => k_is); (case a20 => k_is); (case l20 => k_is); (case c20 => k_is); (case a21 => k_is); (case l21 => k_is); (case c21 => k_is); (case a22 => k_is); (case l22 => k_is); (case c22 => k_is); (case a23 => k_is); (case l23 => k_is); (case c23 => k_is); (case a24 => k_is); (case l24 => k_is); (case c24 => k_is); (case a25 => k_is); (case l25 => k_is); (case c25 => k_is); (case a26 => k_is); (case l26 => k_is); (case c26 => k_is); (case ug0 => k_is); (case uq0 => k_exc); (case uk0 => k_is); (case ub0 => k_is); (case ut0 => k_is); (case um0_0 => rfl); (case z0 => k_is); (case z1 => k_is); (case z2 => k_is); (case z3 => k_is); (case z4 => k_is); (case z5 => k_is); (case z6 => k_is); (case z7 => k_is); (case z8 => k_is); (case z9 => k_is); (case z10 => k_is); (case z11 => k_is); (case mg1 => k_is); (case y0 => k_is); (case y1 => k_is)
    
