import PyProof.Rows.All
import Wide.All
import OpenK.AllK
import Wide.FinOn
import HandS.ForMost
import HandS.ForExc
import HandS.CallSlots
import HandS.TryMany
import HandS.ExcField
import HandS.ExcIs
import HandS.Wide
import HandS.Gcd
import HandS.Zip
import HandS.TupLe
import HandS.Style
import HandS.Sort
import HandS.SortRule
import HandS.SortOrd
import HandS.IsInst
import HandS.TupSets
import HandS.Lambda
import HandS.Nested
import HandS.Flow
import HandS.Conv
import HandS.TupAny
import HandS.Deep
import HandS.Text
import HandS.ExcBuiltin
import HandS.Star
import HandS.SortInts
import KE.SortData
import Open.Split
import KE.DataMinMax
import HandS.Iter
import PyProof.Rows.RuleB_bool
import HandS.NoneIn
import KE.DataEq
import HandS.SetKeys
import HandS.DictTup
import PyProof.DictCompW
import HandS.DictComp
import PyProof.DictMoreH
import HandS.SetFor
import KE.GoesEnum
import PyProof.EqAt
import PyProof.EqKinds
import PyProof.TupleCall
import PySem.Challenge.RW_middledots_k13_arms_and_halves_refused
set_option Elab.async false
set_option linter.all false
set_option maxRecDepth 100000
set_option maxHeartbeats 4000000
namespace M
open PySem PySem.Spec PyProof.Rows L2

/-! # Values, a small heap, results -/
inductive Ty where
  | non | bool | int | str | list | tuple | dict | set
def Ty.nm : Ty → String
  | .non => "NoneType" | .bool => "bool" | .int => "int" | .str => "str" | .list => "list" | .tuple => "tuple" | .dict => "dict" | .set => "set"
inductive W where
  | non | bl (b : Bool) | int (i : Int) | str (x : Str)
  | tup (xs : List W) | fro (xs : List W) | ref (n : Nat) | fn (k : Nat) | opq | ty (t : Ty)

inductive O where
  | lst (xs : List W)
  /-- a dict: keyed by tuples (true), by ints and texts (false) -/
  | dic (t : Bool) (kvs : List (W × W))
  /-- such a dict while it is walked -/
  | ldc (t : Bool) (kvs : List (W × W))
  /-- an object of an own class, its attributes by their numbers -/
  | ins (c : Nat) (fs : List (Nat × W))

structure MH where
  n : Nat
  t : List (Nat × O)

def getT (i : Nat) : List (Nat × O) → Option O
  | [] => none
  | (j, o) :: r => if Nat.beq j i = true then some o else getT i r
def MH.get (h : MH) (i : Nat) : Option O := getT i h.t
def MH.set (h : MH) (i : Nat) (o : O) : MH := ⟨h.n, (i, o) :: h.t⟩
def MH.push (h : MH) (o : O) : MH := ⟨h.n + 1, (h.n, o) :: h.t⟩
theorem MH.get_set {h : MH} {i : Nat} {o : O} : (h.set i o).get i = some o := by
  simp [MH.get, MH.set, getT]
theorem MH.get_set_ne {h : MH} {i j : Nat} {o : O} (e : j ≠ i) : (h.set i o).get j = h.get j := by
  have : Nat.beq i j = false := by
    cases q : Nat.beq i j with
    | false => rfl
    | true => exact absurd (Nat.eq_of_beq_eq_true q).symm e
  simp [MH.get, MH.set, getT, this]
theorem MH.get_push {h : MH} {o : O} : (h.push o).get h.n = some o := by
  simp [MH.get, MH.push, getT]
theorem MH.get_push_ne {h : MH} {j : Nat} {o : O} (e : j ≠ h.n) : (h.push o).get j = h.get j := by
  have : Nat.beq h.n j = false := by
    cases q : Nat.beq h.n j with
    | false => rfl
    | true => exact absurd (Nat.eq_of_beq_eq_true q).symm e
  simp [MH.get, MH.push, getT, this]

inductive Res (α : Type) where
  | ok (a : α) (h : MH) | exc (c : Nat) (fs : List (Str × W)) (h : MH) | stuck
def Res.bnd {α β : Type} (r : Res α) (f : α → MH → Res β) : Res β := match r with
  | .ok a h => f a h
  | .exc c fs h => .exc c fs h
  | .stuck => .stuck
abbrev WS := List (Option W)
abbrev Dn (α : Type) := WS → MH → Res α

/-! # What stands for what -/
structure Gd where
  K : PySem.W.Frag
  fad : Nat → Addr
  cad : Nat → Addr
  /-- the attributes' names -/
  nm : Nat → Str := fun _ => ""
  /-- the tables of code objects -/
  tb : List (Addr × Str) := []

def Fro (K : PySem.W.Frag) (H : Hp) (a : Addr) (vs : List V) : Prop :=
  (∃ o, H a = some (.frz o (.lst vs))) ∨ SqL K (fun _ => none) a vs
mutual
def RelW (g : Gd) (ρ : Nat → Addr) (n : Nat) (H : Hp) : W → V → Prop
  | .non, v => v = .non
  | .bl b, v => v = .bl b
  | .int i, v => v = .int i
  | .str x, v => v = .str x
  | .tup xs, v => ∃ a vs, v = .ref a ∧ H a = some (.tup vs) ∧ RelWs g ρ n H xs vs
  | .fro xs, v => ∃ a vs, v = .ref a ∧ Fro g.K H a vs ∧ RelWs g ρ n H xs vs
  | .ref k, v => k < n ∧ v = .ref (ρ k)
  | .fn k, v => v = .ref (g.fad k)
  | .opq, _ => True
  | .ty t, v => v = .ty t.nm
def RelWs (g : Gd) (ρ : Nat → Addr) (n : Nat) (H : Hp) : List W → List V → Prop
  | [], vs => vs = []
  | x :: xs, vs => ∃ v r, vs = v :: r ∧ RelW g ρ n H x v ∧ RelWs g ρ n H xs r
end
/-- keys -/
def kW : W → Option Key
  | .int i => some (.inl i)
  | .str x => some (.inr x)
  | _ => none
def kWs : List W → Option (List Key)
  | [] => some []
  | x :: r => match kW x, kWs r with
    | some k, some ks => some (k :: ks)
    | _, _ => none
def kT : W → Option (List Key)
  | .tup xs => kWs xs
  | _ => none
def RelKV {κ : Type} (key : W → Option κ) (g : Gd) (ρ : Nat → Addr) (n : Nat) (H : Hp) : List (W × W) → List (κ × V) → Prop
  | [], vs => vs = []
  | p :: r, vs => ∃ k v us, vs = (k, v) :: us ∧ key p.1 = some k ∧ RelW g ρ n H p.2 v ∧ RelKV key g ρ n H r us
def RelFs (g : Gd) (ρ : Nat → Addr) (n : Nat) (H : Hp) : List (Nat × W) → List (Str × V) → Prop
  | [], vs => vs = []
  | p :: r, vs => ∃ v us, vs = (g.nm p.1, v) :: us ∧ RelW g ρ n H p.2 v ∧ RelFs g ρ n H r us
def RelObj (g : Gd) (ρ : Nat → Addr) (n : Nat) (H : Hp) : O → Option HO → Prop
  | .lst xs, u => ∃ vs, u = some (.lst vs) ∧ RelWs g ρ n H xs vs
  | .dic false kvs, u => ∃ vs, u = some (.dK vs) ∧ RelKV kW g ρ n H kvs vs
  | .dic true kvs, u => ∃ vs, u = some (.dT vs) ∧ RelKV kT g ρ n H kvs vs
  | .ldc false kvs, u => ∃ o vs, u = some (.frz o (.dK vs)) ∧ RelKV kW g ρ n H kvs vs
  | .ldc true kvs, u => ∃ o vs, u = some (.frz o (.dT vs)) ∧ RelKV kT g ρ n H kvs vs
  | .ins c fs, u => ∃ dx vs, u = some (.ins (g.cad c) dx vs) ∧ RelFs g ρ n H fs vs
structure Sim (g : Gd) (ρ : Nat → Addr) (h : MH) (H : Hp) : Prop where
  at_ : ∀ i o, h.get i = some o → i < h.n ∧ RelObj g ρ h.n H o (H (ρ i))
  has : ∀ i, i < h.n → ∃ o, h.get i = some o
  inj : ∀ i j, i < h.n → j < h.n → ρ i = ρ j → i = j
  tb : LamX.Tabs g.tb H
theorem upd_some {H : Hp} {p a : Addr} {o : HO} (e : H a ≠ none) : upd H p o a ≠ none := by
  by_cases z : a = p
  · rw [z, upd_same]; simp
  · rw [upd_ne z]; exact e
/-- no table of code objects -/
def NoTb (o : HO) : Prop := ∀ ps, o ≠ .tbl ps
structure Ext (ρ : Nat → Addr) (n : Nat) (H : Hp) (ρ' : Nat → Addr) (n' : Nat) (H' : Hp) : Prop where
  le : n ≤ n'
  eq : ∀ i, i < n → ρ' i = ρ i
  tups : ∀ a vs, H a = some (.tup vs) → H' a = some (.tup vs)
  frzs : ∀ a o u, H a = some (.frz o u) → H' a = some (.frz o u)
  keep : ∀ a o, H a = some o → (∀ i, i < n → ρ i ≠ a) → NoTb o → H' a = some o
  kept : ∀ a, H a ≠ none → H' a ≠ none
  new : ∀ i, n ≤ i → i < n' → H (ρ' i) = none
  there : ∀ i, i < n → H' (ρ i) ≠ none

section
variable {g : Gd} {ρ ρ' ρ1 ρ2 : Nat → Addr} {n n' n1 n2 : Nat} {h h' h1 : MH} {H H' H1 H2 : Hp}
theorem Sim.ne (S : Sim g ρ h H) {i : Nat} (hi : i < h.n) : H (ρ i) ≠ none := by
  obtain ⟨o, e⟩ := S.has i hi
  have := (S.at_ i o e).2
  cases o with
  | lst xs => obtain ⟨vs, e2, _⟩ := this; rw [e2]; simp
  | dic t kvs => cases t <;> (obtain ⟨vs, e2, _⟩ := this; rw [e2]; simp)
  | ldc t kvs => cases t <;> (obtain ⟨_, vs, e2, _⟩ := this; rw [e2]; simp)
  | ins c fs => obtain ⟨_, vs, e2, _⟩ := this; rw [e2]; simp
theorem Sim.noTb (S : Sim g ρ h H) {i : Nat} (hi : i < h.n) {u : HO} (q : H (ρ i) = some u) : NoTb u := by
  obtain ⟨o, e⟩ := S.has i hi
  have := (S.at_ i o e).2
  intro ps z
  subst z
  cases o with
  | lst xs => obtain ⟨vs, e2, _⟩ := this; rw [q] at e2; cases e2
  | dic t kvs => cases t <;> (obtain ⟨vs, e2, _⟩ := this; rw [q] at e2; cases e2)
  | ldc t kvs => cases t <;> (obtain ⟨_, vs, e2, _⟩ := this; rw [q] at e2; cases e2)
  | ins c fs => obtain ⟨_, vs, e2, _⟩ := this; rw [q] at e2; cases e2
theorem Ext.refl (hs : ∀ i, i < n → H (ρ i) ≠ none) : Ext ρ n H ρ n H :=
  ⟨Nat.le_refl _, fun _ _ => rfl, fun _ _ e => e, fun _ _ _ e => e, fun _ _ e _ _ => e, fun _ e => e, fun i a b => absurd b (Nat.not_lt.mpr a), hs⟩
theorem Sim.refl (S : Sim g ρ h H) : Ext ρ h.n H ρ h.n H := Ext.refl fun _ hi => S.ne hi
theorem Ext.trans (a : Ext ρ n H ρ1 n1 H1) (b : Ext ρ1 n1 H1 ρ2 n2 H2) : Ext ρ n H ρ2 n2 H2 where
  le := Nat.le_trans a.le b.le
  eq := fun i hi => (b.eq i (Nat.lt_of_lt_of_le hi a.le)).trans (a.eq i hi)
  tups := fun x vs e => b.tups x vs (a.tups x vs e)
  frzs := fun x o u e => b.frzs x o u (a.frzs x o u e)
  keep := fun x o e hx nt => b.keep x o (a.keep x o e hx nt) (fun i hi q => by
    by_cases hn : i < n
    · exact hx i hn (by rw [← a.eq i hn]; exact q)
    · have := a.new i (Nat.not_lt.mp hn) hi
      rw [q, e] at this; cases this) nt
  kept := fun x e => b.kept x (a.kept x e)
  new := fun i hi hi2 => by
    by_cases h1 : i < n1
    · rw [b.eq i h1]; exact a.new i hi h1
    · have z := b.new i (Nat.not_lt.mp h1) hi2
      cases q : H (ρ2 i) with
      | none => rfl
      | some o =>
        exact absurd z (a.kept _ (by rw [q]; simp))
  there := fun i hi => by
    have := b.there i (Nat.lt_of_lt_of_le hi a.le)
    rw [a.eq i hi] at this
    exact this
theorem SqL.emp {K : PySem.W.Frag} {a : Addr} {vs : List V} (x : SqL K (fun _ => none) a vs) : SqL K H a vs := by
  rcases x with (x | ⟨o, x⟩) | x
  · cases x
  · cases x
  · exact .inr x
theorem Fro.sql {K : PySem.W.Frag} {a : Addr} {vs : List V} (x : Fro K H a vs) : SqL K H a vs := by
  rcases x with ⟨o, x⟩ | x
  · exact .inl (.inr ⟨o, x⟩)
  · exact SqL.emp x
theorem Fro.ext {K : PySem.W.Frag} {a : Addr} {vs : List V} (E : Ext ρ n H ρ' n' H') (x : Fro K H a vs) : Fro K H' a vs := by
  rcases x with ⟨o, x⟩ | x
  · exact .inl ⟨o, E.frzs _ _ _ x⟩
  · exact .inr x
mutual
theorem RelW.ext (E : Ext ρ n H ρ' n' H') : ∀ {x : W} {v : V}, RelW g ρ n H x v → RelW g ρ' n' H' x v
  | .non, _, e => e
  | .bl _, _, e => e
  | .int _, _, e => e
  | .str _, _, e => e
  | .tup xs, _, e => by
    unfold RelW at e ⊢
    obtain ⟨a, vs, e1, e2, e3⟩ := e
    exact ⟨a, vs, e1, E.tups _ _ e2, RelWs.ext E e3⟩
  | .fro xs, _, e => by
    unfold RelW at e ⊢
    obtain ⟨a, vs, e1, e2, e3⟩ := e
    exact ⟨a, vs, e1, e2.ext E, RelWs.ext E e3⟩
  | .ref k, _, e => by
    unfold RelW at e ⊢
    exact ⟨Nat.lt_of_lt_of_le e.1 E.le, by rw [E.eq k e.1]; exact e.2⟩
  | .fn _, _, e => e
  | .opq, _, e => e
  | .ty _, _, e => e
theorem RelWs.ext (E : Ext ρ n H ρ' n' H') : ∀ {xs : List W} {vs : List V}, RelWs g ρ n H xs vs → RelWs g ρ' n' H' xs vs
  | [], _, e => e
  | x :: xs, _, e => by
    unfold RelWs at e ⊢
    obtain ⟨v, r, e1, e2, e3⟩ := e
    exact ⟨v, r, e1, RelW.ext E e2, RelWs.ext E e3⟩
end
theorem RelWs.nil : RelWs g ρ n H [] [] := by unfold RelWs; rfl
theorem RelWs.cons {x : W} {xs : List W} {v : V} {vs : List V} (a : RelW g ρ n H x v) (b : RelWs g ρ n H xs vs) : RelWs g ρ n H (x :: xs) (v :: vs) := by
  unfold RelWs; exact ⟨v, vs, rfl, a, b⟩
theorem RelWs.inv_nil {vs : List V} (a : RelWs g ρ n H [] vs) : vs = [] := by unfold RelWs at a; exact a
theorem RelWs.inv_cons {x : W} {xs : List W} {vs : List V} (a : RelWs g ρ n H (x :: xs) vs) : ∃ v r, vs = v :: r ∧ RelW g ρ n H x v ∧ RelWs g ρ n H xs r := by
  unfold RelWs at a; exact a
theorem RelWs.len : ∀ {xs : List W} {vs : List V}, RelWs g ρ n H xs vs → vs.length = xs.length
  | [], _, e => by rw [e.inv_nil]; rfl
  | x :: xs, _, e => by
    obtain ⟨v, r, rfl, _, e3⟩ := e.inv_cons
    simp [RelWs.len e3]
theorem RelWs.get : ∀ {xs : List W} {vs : List V} {i : Nat} {x : W}, RelWs g ρ n H xs vs → xs[i]? = some x → ∃ v, vs[i]? = some v ∧ RelW g ρ n H x v
  | [], _, _, _, _, q => by simp at q
  | x :: xs, _, 0, _, e, q => by
    obtain ⟨v, r, rfl, e2, e3⟩ := e.inv_cons
    simp at q
    subst q
    exact ⟨v, rfl, e2⟩
  | x :: xs, _, i + 1, _, e, q => by
    obtain ⟨v, r, rfl, e2, e3⟩ := e.inv_cons
    obtain ⟨u, h1, h2⟩ := RelWs.get (i := i) e3 (by simpa using q)
    exact ⟨u, by simpa using h1, h2⟩
theorem RelWs.none : ∀ {xs : List W} {vs : List V} {i : Nat}, RelWs g ρ n H xs vs → xs[i]? = none → vs[i]? = none := fun e q => by
  rw [List.getElem?_eq_none_iff] at q ⊢
  rw [e.len]; exact q
theorem RelWs.append : ∀ {xs ys : List W} {vs us : List V}, RelWs g ρ n H xs vs → RelWs g ρ n H ys us → RelWs g ρ n H (xs ++ ys) (vs ++ us)
  | [], _, _, _, e, q => by rw [e.inv_nil]; exact q
  | x :: xs, _, _, _, e, q => by
    obtain ⟨v, r, rfl, e2, e3⟩ := e.inv_cons
    exact .cons e2 (RelWs.append e3 q)
theorem RelWs.take : ∀ {xs : List W} {vs : List V} (k : Nat), RelWs g ρ n H xs vs → RelWs g ρ n H (xs.take k) (vs.take k)
  | _, _, 0, _ => by simpa using RelWs.nil
  | [], _, k + 1, e => by rw [e.inv_nil]; simpa using RelWs.nil
  | x :: xs, _, k + 1, e => by
    obtain ⟨v, r, rfl, e2, e3⟩ := e.inv_cons
    exact .cons e2 (RelWs.take k e3)
theorem RelWs.drop : ∀ {xs : List W} {vs : List V} (k : Nat), RelWs g ρ n H xs vs → RelWs g ρ n H (xs.drop k) (vs.drop k)
  | _, _, 0, e => by simpa using e
  | [], _, k + 1, e => by rw [e.inv_nil]; simpa using RelWs.nil
  | x :: xs, _, k + 1, e => by
    obtain ⟨v, r, rfl, e2, e3⟩ := e.inv_cons
    exact RelWs.drop k e3
theorem RelWs.set : ∀ {xs : List W} {vs : List V} {x : W} {v : V} (k : Nat), RelW g ρ n H x v → RelWs g ρ n H xs vs → RelWs g ρ n H (xs.set k x) (vs.set k v)
  | [], _, _, _, _, _, e => by rw [e.inv_nil]; exact RelWs.nil
  | x :: xs, _, _, _, 0, q, e => by
    obtain ⟨v, r, rfl, e2, e3⟩ := e.inv_cons
    exact .cons q e3
  | x :: xs, _, _, _, k + 1, q, e => by
    obtain ⟨v, r, rfl, e2, e3⟩ := e.inv_cons
    exact .cons e2 (RelWs.set k q e3)
theorem RelWs.rev : ∀ {xs : List W} {vs : List V}, RelWs g ρ n H xs vs → RelWs g ρ n H xs.reverse vs.reverse
  | [], _, e => by rw [e.inv_nil]; exact RelWs.nil
  | x :: xs, _, e => by
    obtain ⟨v, r, rfl, e2, e3⟩ := e.inv_cons
    rw [List.reverse_cons, List.reverse_cons]
    exact RelWs.append (RelWs.rev e3) (.cons e2 .nil)
/-- a new tuple -/
theorem Ext.tup (S : Sim g ρ h H) {p : Addr} {vs : List V} (hp : H p = none) : Ext ρ h.n H ρ h.n (upd H p (.tup vs)) where
  le := Nat.le_refl _
  eq := fun _ _ => rfl
  tups := fun a us e => by rw [upd_ne (ne_of_none e hp)]; exact e
  frzs := fun a o u e => by rw [upd_ne (ne_of_none e hp)]; exact e
  keep := fun a o e _ _ => by rw [upd_ne (ne_of_none e hp)]; exact e
  kept := fun a e => upd_some e
  new := fun i a b => absurd b (Nat.not_lt.mpr a)
  there := fun i hi => by
    have z := S.ne hi
    by_cases q : ρ i = p
    · rw [q, hp] at z; exact absurd rfl z
    · rw [upd_ne q]; exact z
theorem RelKV.ext {κ : Type} {key : W → Option κ} (E : Ext ρ n H ρ' n' H') : ∀ {xs : List (W × W)} {vs : List (κ × V)}, RelKV key g ρ n H xs vs → RelKV key g ρ' n' H' xs vs
  | [], _, e => e
  | p :: xs, _, e => by
    obtain ⟨k, v, us, e1, e2, e3, e4⟩ := e
    exact ⟨k, v, us, e1, e2, e3.ext E, RelKV.ext E e4⟩
theorem RelFs.ext (E : Ext ρ n H ρ' n' H') : ∀ {xs : List (Nat × W)} {vs : List (Str × V)}, RelFs g ρ n H xs vs → RelFs g ρ' n' H' xs vs
  | [], _, e => e
  | p :: xs, _, e => by
    obtain ⟨v, us, e1, e3, e4⟩ := e
    exact ⟨v, us, e1, e3.ext E, RelFs.ext E e4⟩
theorem RelObj.ext (E : Ext ρ n H ρ' n' H') : ∀ {o : O} {u : Option HO}, RelObj g ρ n H o u → RelObj g ρ' n' H' o u
  | .lst xs, u, e => by
    obtain ⟨vs, e1, e2⟩ := e
    exact ⟨vs, e1, e2.ext E⟩
  | .dic false xs, u, e => by
    obtain ⟨vs, e1, e2⟩ := e
    exact ⟨vs, e1, e2.ext E⟩
  | .dic true xs, u, e => by
    obtain ⟨vs, e1, e2⟩ := e
    exact ⟨vs, e1, e2.ext E⟩
  | .ldc false xs, u, e => by
    obtain ⟨dx, vs, e1, e2⟩ := e
    exact ⟨dx, vs, e1, e2.ext E⟩
  | .ldc true xs, u, e => by
    obtain ⟨dx, vs, e1, e2⟩ := e
    exact ⟨dx, vs, e1, e2.ext E⟩
  | .ins _ xs, u, e => by
    obtain ⟨dx, vs, e1, e2⟩ := e
    exact ⟨dx, vs, e1, e2.ext E⟩
theorem Sim.tup (S : Sim g ρ h H) {p : Addr} {vs : List V} (hp : H p = none) : Sim g ρ h (upd H p (.tup vs)) := by
  have E : Ext ρ h.n H ρ h.n (upd H p (.tup vs)) := Ext.tup S hp
  refine ⟨fun i o e => ?_, S.has, S.inj, S.tb.ext fun b o e => by rw [upd_ne (ne_of_none e hp)]; exact e⟩
  obtain ⟨hi, r⟩ := S.at_ i o e
  have z := S.ne hi
  have q : ρ i ≠ p := fun q => by rw [q, hp] at z; exact z rfl
  rw [upd_ne q]
  exact ⟨hi, r.ext E⟩
/-- a new object -/
def exρ (ρ : Nat → Addr) (n : Nat) (p : Addr) : Nat → Addr := fun i => if i = n then p else ρ i
theorem Ext.push (S : Sim g ρ h H) {p : Addr} {o : HO} (hp : H p = none) : Ext ρ h.n H (exρ ρ h.n p) (h.n + 1) (upd H p o) where
  le := Nat.le_succ _
  eq := fun i hi => if_neg (Nat.ne_of_lt hi)
  tups := fun a us e => by rw [upd_ne (ne_of_none e hp)]; exact e
  frzs := fun a o u e => by rw [upd_ne (ne_of_none e hp)]; exact e
  keep := fun a o e _ _ => by rw [upd_ne (ne_of_none e hp)]; exact e
  kept := fun a e => upd_some e
  new := fun i a b => by
    have e : i = h.n := Nat.le_antisymm (Nat.le_of_lt_succ b) a
    rw [e]; unfold exρ; rw [if_pos rfl]; exact hp
  there := fun i hi => by
    have z := S.ne hi
    by_cases q : ρ i = p
    · rw [q, hp] at z; exact absurd rfl z
    · rw [upd_ne q]; exact z
theorem Sim.pushO (S : Sim g ρ h H) {p : Addr} {ob : O} {u : HO} (hp : H p = none) (r : RelObj g (exρ ρ h.n p) (h.n + 1) (upd H p u) ob (some u)) : Sim g (exρ ρ h.n p) (h.push ob) (upd H p u) := by
  have E : Ext ρ h.n H (exρ ρ h.n p) (h.n + 1) (upd H p u) := Ext.push S hp
  refine ⟨fun i o e => ?_, fun i hi => ?_, fun i j hi hj e => ?_, S.tb.ext fun b o e => by rw [upd_ne (ne_of_none e hp)]; exact e⟩
  · by_cases q : i = h.n
    · subst q
      rw [MH.get_push] at e
      cases e
      refine ⟨Nat.lt_succ_self _, ?_⟩
      have q' : exρ ρ h.n p h.n = p := if_pos rfl
      rw [q', upd_same]
      exact r
    · rw [MH.get_push_ne q] at e
      obtain ⟨hi, r⟩ := S.at_ i o e
      refine ⟨Nat.lt_succ_of_lt hi, ?_⟩
      have z := S.ne hi
      have q' : exρ ρ h.n p i = ρ i := if_neg q
      rw [q']
      have q2 : ρ i ≠ p := fun q => by rw [q, hp] at z; exact z rfl
      rw [upd_ne q2]
      exact r.ext E
  · by_cases q : i = h.n
    · subst q; exact ⟨_, MH.get_push⟩
    · rw [MH.get_push_ne q]
      exact S.has i (Nat.lt_of_le_of_ne (Nat.le_of_lt_succ hi) q)
  · have ne : ∀ {k : Nat}, k < h.n → ρ k ≠ p := fun {k} hk q => by
      have z := S.ne hk
      rw [q, hp] at z; exact z rfl
    unfold exρ at e
    by_cases q : i = h.n
    · by_cases q2 : j = h.n
      · rw [q, q2]
      · rw [if_pos q, if_neg q2] at e
        exact absurd e.symm (ne (Nat.lt_of_le_of_ne (Nat.le_of_lt_succ hj) q2))
    · by_cases q2 : j = h.n
      · rw [if_neg q, if_pos q2] at e
        exact absurd e (ne (Nat.lt_of_le_of_ne (Nat.le_of_lt_succ hi) q))
      · rw [if_neg q, if_neg q2] at e
        exact S.inj i j (Nat.lt_of_le_of_ne (Nat.le_of_lt_succ hi) q) (Nat.lt_of_le_of_ne (Nat.le_of_lt_succ hj) q2) e
theorem Sim.push (S : Sim g ρ h H) {p : Addr} {xs : List W} {vs : List V} (hp : H p = none) (r : RelWs g ρ h.n H xs vs) : Sim g (exρ ρ h.n p) (h.push (.lst xs)) (upd H p (.lst vs)) :=
  S.pushO hp ⟨vs, rfl, r.ext (Ext.push S hp)⟩
/-- an object written -/
theorem Sim.atl (S : Sim g ρ h H) {i : Nat} {xs : List W} (e : h.get i = some (.lst xs)) : i < h.n ∧ ∃ vs, H (ρ i) = some (.lst vs) ∧ RelWs g ρ h.n H xs vs := S.at_ i _ e
/-- neither a tuple nor frozen, nor of the code -/
def Loose : HO → Prop
  | .tup _ => False
  | .frz _ _ => False
  | .tbl _ => False
  | .ext _ => False
  | _ => True
theorem Loose.tbl {o : HO} (l : Loose o) {ps : Array Value} : HO.tbl ps ≠ o := fun z => by rw [← z] at l; exact l
theorem Loose.code {o : HO} (l : Loose o) {c : Addr} {q : Str} : LamX.CodeO c q ≠ o := fun z => by rw [← z] at l; exact l
theorem tabsUpd {T : List (Addr × Str)} {p : Addr} {o1 o2 : HO} (hp : H p = some o1) (l : Loose o1) (t : LamX.Tabs T H) : LamX.Tabs T (upd H p o2) := fun x hx => by
  obtain ⟨ps, h1, h2, h3⟩ := t x hx
  refine ⟨ps, by rw [upd_ne (ne_of h1 hp l.tbl)]; exact h1, h2, fun pos cv hc => ?_⟩
  obtain ⟨c, e1, e2⟩ := h3 pos cv hc
  exact ⟨c, e1, by rw [upd_ne (ne_of e2 hp l.code)]; exact e2⟩
theorem Loose.tup {o : HO} (l : Loose o) {vs : List V} : HO.tup vs ≠ o := fun z => by rw [← z] at l; exact l
theorem Loose.frz {o : HO} (l : Loose o) {x : Obj} {u : HO} : HO.frz x u ≠ o := fun z => by rw [← z] at l; exact l
theorem Ext.setO (S : Sim g ρ h H) {i : Nat} {u u' : HO} (hi : i < h.n) (e1 : H (ρ i) = some u) (l : Loose u) : Ext ρ h.n H ρ h.n (upd H (ρ i) u') := by
  refine ⟨Nat.le_refl _, fun _ _ => rfl, fun a vs' q => ?_, fun a o u q => ?_, fun a o q hx _ => ?_, fun a q => upd_some q, fun j a b => absurd b (Nat.not_lt.mpr a), fun j hj => ?_⟩
  · rw [upd_ne (ne_of q e1 l.tup)]; exact q
  · rw [upd_ne (ne_of q e1 l.frz)]; exact q
  · rw [upd_ne (fun z => hx i hi z.symm)]; exact q
  · by_cases q : ρ j = ρ i
    · rw [q, upd_same]; simp
    · rw [upd_ne q]; exact S.ne hj
theorem Sim.setO (S : Sim g ρ h H) {i : Nat} {u u' : HO} {ob : O} (hi : i < h.n) (e1 : H (ρ i) = some u) (l : Loose u) (r : RelObj g ρ h.n H ob (some u')) : Sim g ρ (h.set i ob) (upd H (ρ i) u') := by
  have E : Ext ρ h.n H ρ h.n (upd H (ρ i) u') := Ext.setO S hi e1 l
  refine ⟨fun j o q => ?_, fun j hj => ?_, S.inj, tabsUpd e1 l S.tb⟩
  · by_cases z : j = i
    · subst z
      rw [MH.get_set] at q
      cases q
      exact ⟨hi, by rw [upd_same]; exact r.ext E⟩
    · rw [MH.get_set_ne z] at q
      obtain ⟨hj, r'⟩ := S.at_ j o q
      refine ⟨hj, ?_⟩
      rw [upd_ne (fun w => z (S.inj j i hj hi w))]
      exact r'.ext E
  · by_cases z : j = i
    · subst z; exact ⟨_, MH.get_set⟩
    · rw [MH.get_set_ne z]; exact S.has j hj
theorem Ext.set (S : Sim g ρ h H) {i : Nat} {xs : List W} {us : List V} (e : h.get i = some (.lst xs)) : Ext ρ h.n H ρ h.n (upd H (ρ i) (.lst us)) := by
  obtain ⟨hi, vs, e1, _⟩ := S.atl e
  exact Ext.setO S hi e1 True.intro
theorem Sim.set (S : Sim g ρ h H) {i : Nat} {xs ys : List W} {us : List V} (e : h.get i = some (.lst xs)) (r : RelWs g ρ h.n H ys us) : Sim g ρ (h.set i (.lst ys)) (upd H (ρ i) (.lst us)) := by
  obtain ⟨hi, vs, e1, _⟩ := S.atl e
  exact Sim.setO S hi e1 True.intro ⟨us, rfl, r⟩
/-- a new object outside the small heap -/
theorem Ext.out (S : Sim g ρ h H) {p : Addr} {o : HO} (hp : H p = none) : Ext ρ h.n H ρ h.n (upd H p o) where
  le := Nat.le_refl _
  eq := fun _ _ => rfl
  tups := fun a us e => by rw [upd_ne (ne_of_none e hp)]; exact e
  frzs := fun a o u e => by rw [upd_ne (ne_of_none e hp)]; exact e
  keep := fun a o e _ _ => by rw [upd_ne (ne_of_none e hp)]; exact e
  kept := fun a e => upd_some e
  new := fun i a b => absurd b (Nat.not_lt.mpr a)
  there := fun i hi => by
    have z := S.ne hi
    by_cases q : ρ i = p
    · rw [q, hp] at z; exact absurd rfl z
    · rw [upd_ne q]; exact z
theorem Sim.out (S : Sim g ρ h H) {p : Addr} {o : HO} (hp : H p = none) : Sim g ρ h (upd H p o) := by
  have E : Ext ρ h.n H ρ h.n (upd H p o) := Ext.out S hp
  refine ⟨fun i o e => ?_, S.has, S.inj, S.tb.ext fun b o e => by rw [upd_ne (ne_of_none e hp)]; exact e⟩
  obtain ⟨hi, r⟩ := S.at_ i o e
  have z := S.ne hi
  have q : ρ i ≠ p := fun q => by rw [q, hp] at z; exact z rfl
  rw [upd_ne q]
  exact ⟨hi, r.ext E⟩
/-- that object changed, a list still -/
theorem Ext.out2 (E : Ext ρ n H ρ' n' H') {p : Addr} {o : HO} (hp : H p = none) (hr : ∀ i, i < n' → ρ' i ≠ p) : Ext ρ n H ρ' n' (upd H' p o) where
  le := E.le
  eq := E.eq
  tups := fun a us e => by rw [upd_ne (ne_of_none e hp)]; exact E.tups a us e
  frzs := fun a o u e => by rw [upd_ne (ne_of_none e hp)]; exact E.frzs a o u e
  keep := fun a o e hx nt => by rw [upd_ne (ne_of_none e hp)]; exact E.keep a o e hx nt
  kept := fun a e => upd_some (E.kept a e)
  new := E.new
  there := fun i hi => by
    rw [upd_ne (by rw [← E.eq i hi]; exact hr i (Nat.lt_of_lt_of_le hi E.le))]
    exact E.there i hi
mutual
theorem RelW.out2 {p : Addr} {o1 o2 : HO} (hp : H p = some o1) (l : Loose o1) : ∀ {x : W} {v : V}, RelW g ρ n H x v → RelW g ρ n (upd H p o2) x v
  | .non, _, e => e
  | .bl _, _, e => e
  | .int _, _, e => e
  | .str _, _, e => e
  | .tup xs, _, e => by
    unfold RelW at e ⊢
    obtain ⟨a, vs, e1, e2, e3⟩ := e
    exact ⟨a, vs, e1, by rw [upd_ne (ne_of e2 hp l.tup)]; exact e2, RelWs.out2 hp l e3⟩
  | .fro xs, _, e => by
    unfold RelW at e ⊢
    obtain ⟨a, vs, e1, e2, e3⟩ := e
    refine ⟨a, vs, e1, ?_, RelWs.out2 hp l e3⟩
    rcases e2 with ⟨o, e2⟩ | e2
    · exact .inl ⟨o, by rw [upd_ne (ne_of e2 hp l.frz)]; exact e2⟩
    · exact .inr e2
  | .ref k, _, e => by
    unfold RelW at e ⊢
    exact e
  | .fn _, _, e => e
  | .opq, _, e => e
  | .ty _, _, e => e
theorem RelWs.out2 {p : Addr} {o1 o2 : HO} (hp : H p = some o1) (l : Loose o1) : ∀ {xs : List W} {vs : List V}, RelWs g ρ n H xs vs → RelWs g ρ n (upd H p o2) xs vs
  | [], _, e => e
  | x :: xs, _, e => by
    unfold RelWs at e ⊢
    obtain ⟨v, r, e1, e2, e3⟩ := e
    exact ⟨v, r, e1, RelW.out2 hp l e2, RelWs.out2 hp l e3⟩
end
theorem RelKV.out2 {κ : Type} {key : W → Option κ} {p : Addr} {o1 o2 : HO} (hp : H p = some o1) (l : Loose o1) : ∀ {xs : List (W × W)} {vs : List (κ × V)}, RelKV key g ρ n H xs vs → RelKV key g ρ n (upd H p o2) xs vs
  | [], _, e => e
  | q :: xs, _, e => by
    obtain ⟨k, v, us, e1, e2, e3, e4⟩ := e
    exact ⟨k, v, us, e1, e2, e3.out2 hp l, RelKV.out2 hp l e4⟩
theorem RelFs.out2 {p : Addr} {o1 o2 : HO} (hp : H p = some o1) (l : Loose o1) : ∀ {xs : List (Nat × W)} {vs : List (Str × V)}, RelFs g ρ n H xs vs → RelFs g ρ n (upd H p o2) xs vs
  | [], _, e => e
  | q :: xs, _, e => by
    obtain ⟨v, us, e1, e3, e4⟩ := e
    exact ⟨v, us, e1, e3.out2 hp l, RelFs.out2 hp l e4⟩
theorem RelObj.out2 {p : Addr} {o1 o2 : HO} (hp : H p = some o1) (l : Loose o1) : ∀ {o : O} {u : Option HO}, RelObj g ρ n H o u → RelObj g ρ n (upd H p o2) o u
  | .lst xs, u, e => by
    obtain ⟨vs, e1, e2⟩ := e
    exact ⟨vs, e1, e2.out2 hp l⟩
  | .dic false xs, u, e => by
    obtain ⟨vs, e1, e2⟩ := e
    exact ⟨vs, e1, e2.out2 hp l⟩
  | .dic true xs, u, e => by
    obtain ⟨vs, e1, e2⟩ := e
    exact ⟨vs, e1, e2.out2 hp l⟩
  | .ldc false xs, u, e => by
    obtain ⟨dx, vs, e1, e2⟩ := e
    exact ⟨dx, vs, e1, e2.out2 hp l⟩
  | .ldc true xs, u, e => by
    obtain ⟨dx, vs, e1, e2⟩ := e
    exact ⟨dx, vs, e1, e2.out2 hp l⟩
  | .ins _ xs, u, e => by
    obtain ⟨dx, vs, e1, e2⟩ := e
    exact ⟨dx, vs, e1, e2.out2 hp l⟩
theorem Sim.out2 (S : Sim g ρ h H) {p : Addr} {o1 o2 : HO} (hp : H p = some o1) (l : Loose o1) (hr : ∀ i, i < h.n → ρ i ≠ p) : Sim g ρ h (upd H p o2) := by
  refine ⟨fun i o e => ?_, S.has, S.inj, tabsUpd hp l S.tb⟩
  obtain ⟨hi, r⟩ := S.at_ i o e
  rw [upd_ne (hr i hi)]
  exact ⟨hi, r.out2 hp l⟩
/-- at last it is one of the small heap's -/
theorem Ext.land (E : Ext ρ n H ρ' n' H') {p : Addr} (hp : H p = none) : Ext ρ n H (exρ ρ' n' p) (n' + 1) H' where
  le := Nat.le_succ_of_le E.le
  eq := fun i hi => by
    have : i ≠ n' := Nat.ne_of_lt (Nat.lt_of_lt_of_le hi E.le)
    unfold exρ; rw [if_neg this]; exact E.eq i hi
  tups := E.tups
  frzs := E.frzs
  keep := E.keep
  kept := E.kept
  new := fun i a b => by
    unfold exρ
    by_cases q : i = n'
    · rw [if_pos q]; exact hp
    · rw [if_neg q]; exact E.new i a (Nat.lt_of_le_of_ne (Nat.le_of_lt_succ b) q)
  there := E.there
mutual
theorem RelW.land {p : Addr} : ∀ {x : W} {v : V}, RelW g ρ n H x v → RelW g (exρ ρ n p) (n + 1) H x v
  | .non, _, e => e
  | .bl _, _, e => e
  | .int _, _, e => e
  | .str _, _, e => e
  | .tup xs, _, e => by
    unfold RelW at e ⊢
    obtain ⟨a, vs, e1, e2, e3⟩ := e
    exact ⟨a, vs, e1, e2, RelWs.land e3⟩
  | .fro xs, _, e => by
    unfold RelW at e ⊢
    obtain ⟨a, vs, e1, e2, e3⟩ := e
    exact ⟨a, vs, e1, e2, RelWs.land e3⟩
  | .ref k, _, e => by
    unfold RelW at e ⊢
    refine ⟨Nat.lt_succ_of_lt e.1, ?_⟩
    unfold exρ
    rw [if_neg (Nat.ne_of_lt e.1)]
    exact e.2
  | .fn _, _, e => e
  | .opq, _, e => e
  | .ty _, _, e => e
theorem RelWs.land {p : Addr} : ∀ {xs : List W} {vs : List V}, RelWs g ρ n H xs vs → RelWs g (exρ ρ n p) (n + 1) H xs vs
  | [], _, e => e
  | x :: xs, _, e => by
    unfold RelWs at e ⊢
    obtain ⟨v, r, e1, e2, e3⟩ := e
    exact ⟨v, r, e1, RelW.land e2, RelWs.land e3⟩
end
theorem RelKV.land {κ : Type} {key : W → Option κ} {p : Addr} : ∀ {xs : List (W × W)} {vs : List (κ × V)}, RelKV key g ρ n H xs vs → RelKV key g (exρ ρ n p) (n + 1) H xs vs
  | [], _, e => e
  | q :: xs, _, e => by
    obtain ⟨k, v, us, e1, e2, e3, e4⟩ := e
    exact ⟨k, v, us, e1, e2, e3.land, RelKV.land e4⟩
theorem RelFs.land {p : Addr} : ∀ {xs : List (Nat × W)} {vs : List (Str × V)}, RelFs g ρ n H xs vs → RelFs g (exρ ρ n p) (n + 1) H xs vs
  | [], _, e => e
  | q :: xs, _, e => by
    obtain ⟨v, us, e1, e3, e4⟩ := e
    exact ⟨v, us, e1, e3.land, RelFs.land e4⟩
theorem RelObj.land {p : Addr} : ∀ {o : O} {u : Option HO}, RelObj g ρ n H o u → RelObj g (exρ ρ n p) (n + 1) H o u
  | .lst xs, u, e => by
    obtain ⟨vs, e1, e2⟩ := e
    exact ⟨vs, e1, e2.land⟩
  | .dic false xs, u, e => by
    obtain ⟨vs, e1, e2⟩ := e
    exact ⟨vs, e1, e2.land⟩
  | .dic true xs, u, e => by
    obtain ⟨vs, e1, e2⟩ := e
    exact ⟨vs, e1, e2.land⟩
  | .ldc false xs, u, e => by
    obtain ⟨dx, vs, e1, e2⟩ := e
    exact ⟨dx, vs, e1, e2.land⟩
  | .ldc true xs, u, e => by
    obtain ⟨dx, vs, e1, e2⟩ := e
    exact ⟨dx, vs, e1, e2.land⟩
  | .ins _ xs, u, e => by
    obtain ⟨dx, vs, e1, e2⟩ := e
    exact ⟨dx, vs, e1, e2.land⟩
theorem Sim.landO (S : Sim g ρ h H) {p : Addr} {ob : O} (r : RelObj g ρ h.n H ob (H p)) (hr : ∀ i, i < h.n → ρ i ≠ p) : Sim g (exρ ρ h.n p) (h.push ob) H := by
  refine ⟨fun i o e => ?_, fun i hi => ?_, fun i j hi hj e => ?_, S.tb⟩
  · by_cases q : i = h.n
    · subst q
      rw [MH.get_push] at e
      cases e
      refine ⟨Nat.lt_succ_self _, ?_⟩
      have q' : exρ ρ h.n p h.n = p := if_pos rfl
      rw [q']
      exact r.land
    · rw [MH.get_push_ne q] at e
      obtain ⟨hi, r⟩ := S.at_ i o e
      refine ⟨Nat.lt_succ_of_lt hi, ?_⟩
      have q' : exρ ρ h.n p i = ρ i := if_neg q
      rw [q']
      exact r.land
  · by_cases q : i = h.n
    · subst q; exact ⟨_, MH.get_push⟩
    · rw [MH.get_push_ne q]
      exact S.has i (Nat.lt_of_le_of_ne (Nat.le_of_lt_succ hi) q)
  · unfold exρ at e
    by_cases q : i = h.n
    · by_cases q2 : j = h.n
      · rw [q, q2]
      · rw [if_pos q, if_neg q2] at e
        exact absurd e.symm (hr j (Nat.lt_of_le_of_ne (Nat.le_of_lt_succ hj) q2))
    · by_cases q2 : j = h.n
      · rw [if_neg q, if_pos q2] at e
        exact absurd e (hr i (Nat.lt_of_le_of_ne (Nat.le_of_lt_succ hi) q))
      · rw [if_neg q, if_neg q2] at e
        exact S.inj i j (Nat.lt_of_le_of_ne (Nat.le_of_lt_succ hi) q) (Nat.lt_of_le_of_ne (Nat.le_of_lt_succ hj) q2) e
theorem Sim.land (S : Sim g ρ h H) {p : Addr} {xs : List W} {vs : List V} (hp : H p = some (.lst vs)) (r : RelWs g ρ h.n H xs vs) (hr : ∀ i, i < h.n → ρ i ≠ p) : Sim g (exρ ρ h.n p) (h.push (.lst xs)) H := S.landO (by rw [hp]; exact ⟨vs, rfl, r⟩) hr
end
end M

set_option Elab.async false
set_option linter.all false
set_option maxRecDepth 100000
set_option maxHeartbeats 4000000
namespace M
open PySem PySem.Spec PyProof.Rows L2

/-! # Readings -/
def RelX (g : Gd) (ρ : Nat → Addr) (n : Nat) (H : Hp) (c : Nat) (fs : List (Str × W)) (cls : Value) (d : Option Addr) : Prop :=
  cls = .ref (g.cad c) ∧ (fs = [] → d = none) ∧ ∀ f w, fs.lookup f = some w → ∃ dd kvs v, d = some dd ∧ H dd = some (.xd kvs) ∧ kvs.lookup f = some v ∧ RelW g ρ n H w v
abbrev RR (α β : Type) := (Nat → Addr) → Nat → Hp → α → β → Prop
def Fin (g : Gd) {α β : Type} (R : RR α β) (ρ : Nat → Addr) (h : MH) (H : Hp) (Q : β → Hp → Prop) (E : XK) : Res α → Prop
  | .ok a h' => ∀ ρ' H' b, Ext ρ h.n H ρ' h'.n H' → Sim g ρ' h' H' → R ρ' h'.n H' a b → Q b H'
  | .exc c fs h' => ∀ ρ' H' cls d, Ext ρ h.n H ρ' h'.n H' → Sim g ρ' h' H' → RelX g ρ' h'.n H' c fs cls d → E cls d H'
  | .stuck => False
def Sl (g : Gd) (ρ : Nat → Addr) (n : Nat) (H : Hp) (ws : WS) (σ : L2.St) : Prop :=
  ws.length = σ.length ∧ ∀ (i : Nat) (w : W), ws[i]? = some (some w) → ∃ v, σ[i]? = some (some v) ∧ RelW g ρ n H w v
def tG (g : Gd) {α β : Type} (R : RR α β) (Wx : WX) (m : Dn α) : L2.St → Hp → (β → Hp → Prop) → Prop := fun σ H Q =>
  ∃ ρ ws h, Sim g ρ h H ∧ Sl g ρ h.n H ws σ ∧ Fin g R ρ h H Q (fun c d H' => Wx c d σ H') (m ws h)
abbrev tE (g : Gd) (Wx : WX) (m : Dn W) : TE := tG g (RelW g) Wx m
abbrev tA (g : Gd) (Wx : WX) (m : Dn (List W)) : TA := tG g (RelWs g) Wx m
abbrev RB : RR Bool Bool := fun _ _ _ a b => a = b
abbrev tT (g : Gd) (Wx : WX) (m : Dn Bool) : TT := tG g RB Wx m
/-- an exception with a class and nothing known -/
abbrev W0 : WX := fun _ _ _ _ => False

section
variable {g : Gd} {α β γ δ : Type} {R : RR α β} {R' : RR γ δ} {ρ ρ' ρ1 : Nat → Addr} {n : Nat} {h h1 h' : MH} {H H' H1 : Hp} {Q : β → Hp → Prop} {Q' : δ → Hp → Prop} {E : XK}
theorem Sl.ext {n' : Nat} {ws : WS} {σ : L2.St} (X : Ext ρ n H ρ' n' H') (s : Sl g ρ n H ws σ) : Sl g ρ' n' H' ws σ :=
  ⟨s.1, fun i w e => let ⟨v, a, b⟩ := s.2 i w e; ⟨v, a, b.ext X⟩⟩
theorem Fin.mono {r : Res α} {Q2 : β → Hp → Prop} (f : Fin g R ρ h H Q E r) (k : ∀ b H', Q b H' → Q2 b H') : Fin g R ρ h H Q2 E r := by
  cases r with
  | ok a h' => exact fun ρ' H' b x s r => k _ _ (f ρ' H' b x s r)
  | exc c fs h' => exact f
  | stuck => exact f
theorem Fin.later {r : Res γ} (X : Ext ρ h.n H ρ1 h1.n H1) (f : Fin g R' ρ h H Q' E r) : Fin g R' ρ1 h1 H1 Q' E r := by
  cases r with
  | ok a h' => exact fun ρ' H' b x s r => f ρ' H' b (X.trans x) s r
  | exc c fs h' => exact fun ρ' H' cls d x s r => f ρ' H' cls d (X.trans x) s r
  | stuck => exact f
theorem Fin.bnd {r : Res α} {f : α → MH → Res γ} (x : Fin g R' ρ h H Q' E (r.bnd f)) :
    Fin g R ρ h H (fun b H1 => ∃ ρ1 h1 a, Ext ρ h.n H ρ1 h1.n H1 ∧ Sim g ρ1 h1 H1 ∧ R ρ1 h1.n H1 a b ∧ Fin g R' ρ1 h1 H1 Q' E (f a h1)) E r := by
  cases r with
  | ok a h1 => exact fun ρ1 H1 b X s r => ⟨ρ1, h1, a, X, s, r, Fin.later X x⟩
  | exc c fs h' => exact x
  | stuck => exact x
theorem Fin.here {a : α} {b : β} (S : Sim g ρ h H) (r : R ρ h.n H a b) (x : Fin g R ρ h H Q E (.ok a h)) : Q b H := x ρ H b S.refl S r
theorem Fin.tup {xs : List W} {vs : List V} {Q : VK} (S : Sim g ρ h H) (r : RelWs g ρ h.n H xs vs) (x : Fin g (RelW g) ρ h H Q E (.ok (.tup xs) h)) {p : Addr} (hp : H p = none) : Q (.ref p) (upd H p (.tup vs)) := by
  have X : Ext ρ h.n H ρ h.n (upd H p (.tup vs)) := Ext.tup S hp
  refine x ρ _ (.ref p) X (Sim.tup S hp) ?_
  unfold RelW
  exact ⟨p, vs, rfl, upd_same, r.ext X⟩
theorem Fin.push {xs : List W} {vs : List V} {Q : VK} (S : Sim g ρ h H) (r : RelWs g ρ h.n H xs vs) (x : Fin g (RelW g) ρ h H Q E (.ok (.ref h.n) (h.push (.lst xs)))) {p : Addr} (hp : H p = none) : Q (.ref p) (upd H p (.lst vs)) := by
  refine x (exρ ρ h.n p) _ (.ref p) (Ext.push S hp) (Sim.push S hp r) ?_
  unfold RelW
  exact ⟨Nat.lt_succ_self _, by unfold exρ; rw [if_pos rfl]⟩
end

section
variable {g : Gd} {X : Cx} {Wx : WX} {e a b c : Expr} {pos : Pos}
theorem weak {t t' : TE} (x : PE X e t) (w : ∀ σ H Q, t' σ H Q → t σ H Q) : PE X e t' := ⟨fun pins s σ H Q I q => x.run pins s σ H Q I (w σ H Q q)⟩
theorem weakT {t t' : TT} (x : PT X e t) (w : ∀ σ H Q, t' σ H Q → t σ H Q) : PT X e t' := ⟨fun pins s σ H Q I q => x.run pins s σ H Q I (w σ H Q q)⟩
theorem weakW {t t' : TT} (x : PW X e t) (w : ∀ σ H Q, t' σ H Q → t σ H Q) : PW X e t' := ⟨fun wh pins s σ H Q I q => x.run wh pins s σ H Q I (w σ H Q q)⟩
theorem weakA {es : List Expr} {t t' : TA} (x : PA X es t) (w : ∀ σ H Q, t' σ H Q → t σ H Q) : PA X es t' := ⟨fun p pins s σ H Q I q => x.run p pins s σ H Q I (w σ H Q q)⟩

/-! ### names, constants -/
def dVar (i : Nat) : Dn W := fun ws h => match ws[i]? with
  | some (some w) => .ok w h
  | _ => .stuck
def dC (w : W) : Dn W := fun _ h => .ok w h
theorem var_reads {i : Nat} {σ : L2.St} {H : Hp} {Q : VK} (x : tE g Wx (dVar i) σ H Q) : tVar i σ H Q := by
  obtain ⟨ρ, ws, h, S, sl, f⟩ := x
  unfold dVar at f
  cases q : ws[i]? with
  | none => rw [q] at f; exact f.elim
  | some o =>
    cases o with
    | none => rw [q] at f; exact f.elim
    | some w =>
      rw [q] at f
      obtain ⟨v, e, r⟩ := sl.2 i w q
      exact ⟨v, e, f.here S r⟩
theorem mv (i : Nat) {x : Str} {pos : Pos} (hN : X.N[i]? = some x := by rfl) (hv : Vis X.env.scope x := by first | exact Or.inl rfl | exact Or.inr (Or.inl rfl) | exact Or.inr (Or.inr rfl)) (hd : (x == ("__debug__" : Str)) = false := by decide)
    (hcd : (x == ("__classdict__" : Str)) = false := by decide) : PE X (.Name x pos) (tE g Wx (dVar i)) := weak (pe_var hN hv hd hcd) fun _ _ _ q => var_reads q
theorem const_reads {w : W} {v : V} {σ : L2.St} {H : Hp} {Q : VK} (r : ∀ ρ n H, RelW g ρ n H w v) (x : tE g Wx (dC w) σ H Q) : tC v σ H Q := by
  obtain ⟨ρ, ws, h, S, sl, f⟩ := x
  exact f.here S (r _ _ _)
theorem m_int {i j pos} : PE X (.Constant (.int i) j pos) (tE g Wx (dC (.int i))) := weak pe_int fun _ _ _ q => const_reads (g := g) (v := .int i) (fun _ _ _ => by simp only [RelW]) q
theorem m_bl {i j pos} : PE X (.Constant (.bool i) j pos) (tE g Wx (dC (.bl i))) := weak pe_bl fun _ _ _ q => const_reads (g := g) (v := .bl i) (fun _ _ _ => by simp only [RelW]) q
theorem m_non {j pos} : PE X (.Constant .none j pos) (tE g Wx (dC .non)) := weak pe_non fun _ _ _ q => const_reads (g := g) (v := .non) (fun _ _ _ => by simp only [RelW]) q
theorem m_str {x j pos} : PE X (.Constant (.str x) j pos) (tE g Wx (dC (.str x))) := weak pe_str fun _ _ _ q => const_reads (g := g) (v := .str x) (fun _ _ _ => by simp only [RelW]) q
/-- a def as a value -/
theorem m_fn {x : Str} {k : Nat} {pos : Pos} (hg : Gl X x) (hm : X.mg x = some (.ref (g.fad k))) (hd : (x == ("__debug__" : Str)) = false := by decide) : PE X (.Name x pos) (tE g Wx (dC (.fn k))) :=
  weak (pe_glob (v := .ref (g.fad k)) hg hm rfl hd) fun _ _ _ q => const_reads (g := g) (v := .ref (g.fad k)) (fun _ _ _ => by simp only [RelW]) q
/-- a module's constant -/
theorem m_gint {x : Str} {i : Int} {t : Tok} {pos : Pos} (hg : Gl X x) (hm : X.mg x = some (.int i t)) (hd : (x == ("__debug__" : Str)) = false := by decide) : PE X (.Name x pos) (tE g Wx (dC (.int i))) :=
  weak (pe_glob (v := .int i) hg hm ⟨t, rfl⟩ hd) fun _ _ _ q => const_reads (g := g) (v := .int i) (fun _ _ _ => by simp only [RelW]) q
theorem m_gstr {x : Str} {i : Str} {t : Tok} {pos : Pos} (hg : Gl X x) (hm : X.mg x = some (.str i t)) (hd : (x == ("__debug__" : Str)) = false := by decide) : PE X (.Name x pos) (tE g Wx (dC (.str i))) :=
  weak (pe_glob (v := .str i) hg hm ⟨t, rfl⟩ hd) fun _ _ _ q => const_reads (g := g) (v := .str i) (fun _ _ _ => by simp only [RelW]) q

/-! ### two in a row, operators -/
def dTwo {α β γ : Type} (f : α → β → MH → Res γ) (a : Dn α) (b : Dn β) : Dn γ := fun ws h => (a ws h).bnd fun x h1 => (b ws h1).bnd fun y h2 => f x y h2
abbrev dOp (f : W → W → MH → Res W) (a b : Dn W) : Dn W := dTwo f a b
theorem two_reads {α α' β β' γ γ' : Type} {R1 : RR α α'} {R2 : RR β β'} {R3 : RR γ γ'} {f : α → β → MH → Res γ} {ma : Dn α} {mb : Dn β} {σ : L2.St} {H : Hp} {Q : γ' → Hp → Prop} {G : α' → β' → Hp → Prop}
    (mono : ∀ {ρ n H ρ' n' H' x v}, Ext ρ n H ρ' n' H' → R1 ρ n H x v → R1 ρ' n' H' x v)
    (x : tG g R3 Wx (dTwo f ma mb) σ H Q)
    (k : ∀ ρ h H x y vx vy, Sim g ρ h H → R1 ρ h.n H x vx → R2 ρ h.n H y vy → Fin g R3 ρ h H Q (fun c d H' => Wx c d σ H') (f x y h) → G vx vy H) :
    tG g R1 Wx ma σ H fun vx H1 => tG g R2 Wx mb σ H1 fun vy H2 => G vx vy H2 := by
  obtain ⟨ρ, ws, h, S, sl, fin⟩ := x
  refine ⟨ρ, ws, h, S, sl, (Fin.bnd (R := R1) fin).mono fun vx H1 ⟨ρ1, h1, wx, X1, S1, r1, f1⟩ => ?_⟩
  refine ⟨ρ1, ws, h1, S1, sl.ext X1, (Fin.bnd (R := R2) f1).mono fun vy H2 ⟨ρ2, h2, wy, X2, S2, r2, f2⟩ => ?_⟩
  exact k ρ2 h2 H2 wx wy vx vy S2 (mono X2 r1) r2 f2
/-- f is what the rule r asks -/
def OpS (g : Gd) (r : R2) (f : W → W → MH → Res W) : Prop := ∀ ρ h H x y vx vy (Q : VK) (E : XK), Sim g ρ h H → RelW g ρ h.n H x vx → RelW g ρ h.n H y vy → Fin g (RelW g) ρ h H Q E (f x y h) → r vx vy H Q
theorem op_reads {r : R2} {f : W → W → MH → Res W} (o : OpS g r f) {ma mb : Dn W} {σ : L2.St} {H : Hp} {Q : VK} (x : tE g Wx (dOp f ma mb) σ H Q) : tOp r (tE g Wx ma) (tE g Wx mb) σ H Q :=
  two_reads (R1 := RelW g) (R2 := RelW g) (fun X q => q.ext X) x fun ρ h H x y vx vy S r1 r2 f => o ρ h H x y vx vy Q _ S r1 r2 f
theorem m_op {op : Operator} {r : R2} {f : W → W → MH → Res W} {ma mb : Dn W} (ho : OpR X (binaryOp op) r) (o : OpS g r f) (ha : PE X a (tE g Wx ma)) (hb : PE X b (tE g Wx mb)) : PE X (.BinOp a op b pos) (tE g Wx (dOp f ma mb)) :=
  weak (pe_op ho ha hb) fun _ _ _ q => op_reads o q
theorem m_cmp {op : CmpOp} {r : R2} {f : W → W → MH → Res W} {ma mb : Dn W} (ho : OpR X (compareOp op) r) (o : OpS g r f) (ha : PE X a (tE g Wx ma)) (hb : PE X b (tE g Wx mb)) (hm : behindInMarks op b = false) : PE X (.Compare a [op] [b] pos) (tE g Wx (dOp f ma mb)) :=
  weak (pe_cmpR ho ha hb hm) fun _ _ _ q => op_reads o q
def toB (w : W) (h : MH) : Res Bool := match w with
  | .bl k => .ok k h
  | _ => .stuck
def dTest (m : Dn W) : Dn Bool := fun ws h => (m ws h).bnd toB
theorem test_reads {m : Dn W} {σ : L2.St} {H : Hp} {Q : Bool → Hp → Prop} (x : tT g Wx (dTest m) σ H Q) : tE g Wx m σ H fun v H' => ∃ k, v = .bl k ∧ Q k H' := by
  obtain ⟨ρ, ws, h, S, sl, fin⟩ := x
  refine ⟨ρ, ws, h, S, sl, (Fin.bnd (R := RelW g) fin).mono fun v H1 ⟨ρ1, h1, w, X1, S1, r1, f1⟩ => ?_⟩
  cases w with
  | bl k =>
    unfold RelW at r1
    exact ⟨k, r1, f1.here S1 rfl⟩
  | _ => exact f1.elim
theorem mt_cmp {op : CmpOp} {r : R2} {f : W → W → MH → Res W} {ma mb : Dn W} (ho : OpR X (compareOp op) r) (o : OpS g r f) (ha : PE X a (tE g Wx ma)) (hb : PE X b (tE g Wx mb)) (hm : behindInMarks op b = false) : PT X (.Compare a [op] [b] pos) (tT g Wx (dTest (dOp f ma mb))) := by
  refine weakT (pt_cmp (t := tOp r (tE g Wx ma) (tE g Wx mb)) (h1 := hm) ⟨fun pins s σ H Q I hq => ?_⟩) fun σ H Q q => ?_
  · exact thn (ha.run pins s σ H _ I hq) fun v s1 ⟨x1, H1, I1, r1, q1⟩ => thn (hb.run pins s1 σ H1 _ I1 q1) fun u s2 ⟨y1, H2, I2, r2, q2⟩ => ho pins s2 σ H2 x1 y1 v u Q I2 r1 r2 q2
  · exact op_reads o (test_reads q)
theorem mt_val {m : Dn W} (x : PE X e (tE g Wx m)) (he : ∀ whole, isTrue e X.env whole = (do let v ← whole; standAt e.pos; holding [v] (truthy v)) := by intro _; rfl) : PT X e (tT g Wx (dTest m)) :=
  weakT (pt_val x he) fun _ _ _ q => test_reads q

/-! ### int operators -/
def f2I (k : Int → Int → MH → Res W) : W → W → MH → Res W := fun x y h => match x, y with
  | .int i, .int j => k i j h
  | _, _ => .stuck
theorem opS_I {r : R2} {k : Int → Int → MH → Res W} (o : ∀ ρ h H i j (Q : VK) (E : XK), Sim g ρ h H → Fin g (RelW g) ρ h H Q E (k i j h) → r (.int i) (.int j) H Q) : OpS g r (f2I k) := by
  intro ρ h H x y vx vy Q E S r1 r2 f
  cases x <;> first | exact f.elim | skip
  cases y <;> first | exact f.elim | skip
  unfold RelW at r1 r2
  subst r1; subst r2
  exact o ρ h H _ _ Q E S f
def kI (fn : Int → Int → Int) : Int → Int → MH → Res W := fun i j h => .ok (.int (fn i j)) h
def kB (fn : Int → Int → Bool) : Int → Int → MH → Res W := fun i j h => .ok (.bl (fn i j)) h
def kIf (c : Int → Int → Bool) (fn : Int → Int → Int) : Int → Int → MH → Res W := fun i j h => if c i j = true then .ok (.int (fn i j)) h else .stuck
theorem oI {fn : Int → Int → Int} : OpS g (rI0 fun i j => .int (fn i j)) (f2I (kI fn)) := opS_I fun ρ h H i j Q E S f => ⟨i, j, rfl, rfl, f.here S (by simp only [RelW])⟩
theorem oB {fn : Int → Int → Bool} : OpS g (rI0 fun i j => .bl (fn i j)) (f2I (kB fn)) := opS_I fun ρ h H i j Q E S f => ⟨i, j, rfl, rfl, f.here S (by simp only [RelW])⟩
theorem oIf {C : Int → Int → Prop} {c : Int → Int → Bool} {fn : Int → Int → Int} (hc : ∀ i j, c i j = true → C i j) : OpS g (rI C fun i j => .int (fn i j)) (f2I (kIf c fn)) := opS_I fun ρ h H i j Q E S f => by
  unfold kIf at f
  by_cases q : c i j = true
  · rw [if_pos q] at f
    exact ⟨i, j, rfl, rfl, hc i j q, f.here S (by simp only [RelW])⟩
  · rw [if_neg q] at f; exact f.elim
def fAdd := f2I (kI fun i j => i + j)
def fSub := f2I (kI fun i j => i - j)
def cMul (i j : Int) : Bool := Nat.ble (i.natAbs.log2 + j.natAbs.log2) 999999
def fMul := f2I (kIf cMul fun i j => i * j)
theorem cMul_ok (i j : Int) (e : cMul i j = true) : CMulW i j := by
  have := Nat.le_of_ble_eq_true e
  unfold CMulW
  omega
def cDiv (i j : Int) : Bool := decide (0 < j) && Nat.ble j.natAbs.log2 8999
theorem cDiv_ok (i j : Int) (e : cDiv i j = true) : CDivW i j := by
  unfold cDiv at e
  obtain ⟨a, b⟩ := Bool.and_eq_true_iff.mp e
  have := Nat.le_of_ble_eq_true b
  exact ⟨of_decide_eq_true a, by omega⟩
def fDiv := f2I (kIf cDiv fun i j => i / j)
def cPos (_ j : Int) : Bool := decide (0 < j)
def fMod := f2I (kIf cPos fun i j => i % j)
def cPow (i j : Int) : Bool := decide (0 ≤ j) && (decide (j ≤ 1000000) && decide (i.natAbs < 2 ^ 64))
theorem cPow_ok (i j : Int) (e : cPow i j = true) : CPow i j := by
  unfold cPow at e
  obtain ⟨a, b⟩ := Bool.and_eq_true_iff.mp e
  obtain ⟨b, c⟩ := Bool.and_eq_true_iff.mp b
  exact ⟨of_decide_eq_true a, of_decide_eq_true b, of_decide_eq_true c⟩
def fPow := f2I (kIf cPow fun i j => i ^ j.toNat)
def fLt := f2I (kB fun i j => decide (i < j))
def fLe := f2I (kB fun i j => decide (i ≤ j))
def fGt := f2I (kB fun i j => decide (j < i))
def fGe := f2I (kB fun i j => decide (j ≤ i))
theorem m_add {ma mb : Dn W} (ha : PE X a (tE g Wx ma)) (hb : PE X b (tE g Wx mb)) : PE X (.BinOp a .Add b pos) (tE g Wx (dOp fAdd ma mb)) := m_op op_add oI ha hb
theorem m_sub {ma mb : Dn W} (ha : PE X a (tE g Wx ma)) (hb : PE X b (tE g Wx mb)) : PE X (.BinOp a .Sub b pos) (tE g Wx (dOp fSub ma mb)) := m_op op_sub oI ha hb
theorem m_mul {ma mb : Dn W} (ha : PE X a (tE g Wx ma)) (hb : PE X b (tE g Wx mb)) : PE X (.BinOp a .Mult b pos) (tE g Wx (dOp fMul ma mb)) := m_op op_mulW (oIf cMul_ok) ha hb
theorem m_div {ma mb : Dn W} (ha : PE X a (tE g Wx ma)) (hb : PE X b (tE g Wx mb)) : PE X (.BinOp a .FloorDiv b pos) (tE g Wx (dOp fDiv ma mb)) := m_op op_fdivW (oIf cDiv_ok) ha hb
theorem m_mod {ma mb : Dn W} (ha : PE X a (tE g Wx ma)) (hb : PE X b (tE g Wx mb)) : PE X (.BinOp a .Mod b pos) (tE g Wx (dOp fMod ma mb)) := m_op op_mod (oIf fun _ _ e => of_decide_eq_true e) ha hb
theorem m_pow {ma mb : Dn W} (ha : PE X a (tE g Wx ma)) (hb : PE X b (tE g Wx mb)) : PE X (.BinOp a .Pow b pos) (tE g Wx (dOp fPow ma mb)) := m_op op_pow (oIf cPow_ok) ha hb
end
end M

set_option Elab.async false
set_option linter.all false
set_option maxRecDepth 100000
set_option maxHeartbeats 4000000
namespace M
open PySem PySem.Spec PyProof.Rows L2

section
variable {g : Gd} {X : Cx} {Wx : WX} {e a b c : Expr} {pos : Pos}
/-! ### one, then f -/
def dOne {α β : Type} (f : α → MH → Res β) (m : Dn α) : Dn β := fun ws h => (m ws h).bnd f
theorem one_reads {α α' β β' : Type} {R1 : RR α α'} {R2 : RR β β'} {f : α → MH → Res β} {m : Dn α} {σ : L2.St} {H : Hp} {Q : β' → Hp → Prop} {G : α' → Hp → Prop}
    (x : tG g R2 Wx (dOne f m) σ H Q) (k : ∀ ρ h H x vx, Sim g ρ h H → R1 ρ h.n H x vx → Fin g R2 ρ h H Q (fun c d H' => Wx c d σ H') (f x h) → G vx H) : tG g R1 Wx m σ H G := by
  obtain ⟨ρ, ws, h, S, sl, fin⟩ := x
  exact ⟨ρ, ws, h, S, sl, (Fin.bnd (R := R1) fin).mono fun vx H1 ⟨ρ1, h1, wx, X1, S1, r1, f1⟩ => k ρ1 h1 H1 wx vx S1 r1 f1⟩

/-! ### if, and, or, not -/
def dIf {α : Type} (c : Dn Bool) (a b : Dn α) : Dn α := fun ws h => (c ws h).bnd fun k h1 => match k with
  | true => a ws h1
  | false => b ws h1
theorem if_reads {α α' : Type} {R : RR α α'} {mc : Dn Bool} {ma mb : Dn α} {σ : L2.St} {H : Hp} {Q : α' → Hp → Prop} (x : tG g R Wx (dIf mc ma mb) σ H Q) :
    tT g Wx mc σ H fun k H1 => if k = true then tG g R Wx ma σ H1 Q else tG g R Wx mb σ H1 Q := by
  obtain ⟨ρ, ws, h, S, sl, fin⟩ := x
  refine ⟨ρ, ws, h, S, sl, (Fin.bnd (R := RB) fin).mono fun k H1 ⟨ρ1, h1, k', X1, S1, r1, f1⟩ => ?_⟩
  have e : k' = k := r1
  subst e
  cases k' with
  | true => exact ⟨ρ1, ws, h1, S1, sl.ext X1, f1⟩
  | false => exact ⟨ρ1, ws, h1, S1, sl.ext X1, f1⟩
theorem m_ifE {mc : Dn Bool} {ma mb : Dn W} (hc : PT X c (tT g Wx mc)) (ha : PE X a (tE g Wx ma)) (hb : PE X b (tE g Wx mb)) : PE X (.IfExp c a b pos) (tE g Wx (dIf mc ma mb)) :=
  weak (pe_ifExp hc ha hb) fun _ _ _ q => if_reads q
def dK {α : Type} (k : α) : Dn α := fun _ h => .ok k h
theorem k_reads {k : Bool} {σ : L2.St} {H : Hp} {Q : Bool → Hp → Prop} (x : tT g Wx (dK k) σ H Q) : Q k H := by
  obtain ⟨ρ, ws, h, S, sl, fin⟩ := x
  exact Fin.here (R := RB) (a := k) S rfl fin
def dAnd (a b : Dn Bool) : Dn Bool := dIf a b (dK false)
def dOr (a b : Dn Bool) : Dn Bool := dIf a (dK true) b
def dNot (a : Dn Bool) : Dn Bool := dOne (fun k h => .ok (!k) h) a
variable {rest : List Expr}
theorem mw_and1 {ma : Dn Bool} (ha : PT X a (tT g Wx ma)) : PW X (.BoolOp .And [a] pos) (tT g Wx ma) := pw_and1 ha
theorem mw_or1 {ma : Dn Bool} (ha : PT X a (tT g Wx ma)) : PW X (.BoolOp .Or [a] pos) (tT g Wx ma) := pw_or1 ha
theorem mw_and {ma mb : Dn Bool} (ha : PT X a (tT g Wx ma)) (hb : PW X (.BoolOp .And (b :: rest) pos) (tT g Wx mb)) : PW X (.BoolOp .And (a :: b :: rest) pos) (tT g Wx (dAnd ma mb)) :=
  weakW (pw_and ha hb) fun σ H Q q => by
    obtain ⟨ρ, ws, h, S, sl, fin⟩ := if_reads q
    refine ⟨ρ, ws, h, S, sl, fin.mono fun k H1 z => ?_⟩
    cases k with
    | true => rw [if_pos rfl] at z ⊢; exact z
    | false => rw [if_neg Bool.false_ne_true] at z ⊢; exact k_reads z
theorem mw_or {ma mb : Dn Bool} (ha : PT X a (tT g Wx ma)) (hb : PW X (.BoolOp .Or (b :: rest) pos) (tT g Wx mb)) : PW X (.BoolOp .Or (a :: b :: rest) pos) (tT g Wx (dOr ma mb)) :=
  weakW (pw_or ha hb) fun σ H Q q => by
    obtain ⟨ρ, ws, h, S, sl, fin⟩ := if_reads q
    refine ⟨ρ, ws, h, S, sl, fin.mono fun k H1 z => ?_⟩
    cases k with
    | true => rw [if_pos rfl] at z ⊢; exact k_reads z
    | false => rw [if_neg Bool.false_ne_true] at z ⊢; exact z
theorem mt_not {ma : Dn Bool} (ha : PT X a (tT g Wx ma)) : PT X (.UnaryOp .Not a pos) (tT g Wx (dNot ma)) :=
  weakT (pt_not ha) fun σ H Q q => one_reads (R1 := RB) q fun ρ h H x vx S r f => by
    have e : x = vx := r
    subst e
    exact Fin.here (R := RB) S rfl f
/-- as values -/
def dVal (m : Dn Bool) : Dn W := dOne (fun k h => .ok (.bl k) h) m
theorem val_reads {m : Dn Bool} {σ : L2.St} {H : Hp} {Q : VK} (x : tE g Wx (dVal m) σ H Q) : tT g Wx m σ H fun k H1 => Q (.bl k) H1 :=
  one_reads (R1 := RB) x fun ρ h H x vx S r f => by
    have e : x = vx := r
    subst e
    exact f.here S (by simp only [RelW])
theorem m_andE {ma : Dn W} {mb : Dn W} (ha : PE X a (tE g Wx ma)) (hb : PE X (.BoolOp .And (b :: rest) pos) (tE g Wx mb)) : PE X (.BoolOp .And (a :: b :: rest) pos) (tE g Wx (dIf (dTest ma) mb (dC (.bl false)))) :=
  weak (pe_and ha hb) fun σ H Q q => by
    obtain ⟨ρ, ws, h, S, sl, fin⟩ := test_reads (if_reads q)
    refine ⟨ρ, ws, h, S, sl, fin.mono fun v H1 ⟨k, e, z⟩ => ⟨k, e, ?_⟩⟩
    cases k with
    | true => rw [if_pos rfl] at z ⊢; exact z
    | false => rw [if_neg Bool.false_ne_true] at z ⊢; exact const_reads (g := g) (v := .bl false) (fun _ _ _ => by simp only [RelW]) z
theorem m_orE {ma : Dn W} {mb : Dn W} (ha : PE X a (tE g Wx ma)) (hb : PE X (.BoolOp .Or (b :: rest) pos) (tE g Wx mb)) : PE X (.BoolOp .Or (a :: b :: rest) pos) (tE g Wx (dIf (dTest ma) (dC (.bl true)) mb)) :=
  weak (pe_or ha hb) fun σ H Q q => by
    obtain ⟨ρ, ws, h, S, sl, fin⟩ := test_reads (if_reads q)
    refine ⟨ρ, ws, h, S, sl, fin.mono fun v H1 ⟨k, e, z⟩ => ⟨k, e, ?_⟩⟩
    cases k with
    | true => rw [if_pos rfl] at z ⊢; exact const_reads (g := g) (v := .bl true) (fun _ _ _ => by simp only [RelW]) z
    | false => rw [if_neg Bool.false_ne_true] at z ⊢; exact z
theorem m_oneE {op} {m : Dn W} (h : PE X a (tE g Wx m)) : PE X (.BoolOp op [a] pos) (tE g Wx m) := pe_one h
def fNotW (w : W) (h : MH) : Res W := match w with
  | .bl k => .ok (.bl (!k)) h
  | _ => .stuck
theorem m_notE {ma : Dn W} (ha : PE X a (tE g Wx ma)) : PE X (.UnaryOp .Not a pos) (tE g Wx (dOne fNotW ma)) :=
  weak (pe_not ha) fun σ H Q q => one_reads (R1 := RelW g) q fun ρ h H x vx S r f => by
    cases x with
    | bl k =>
      unfold RelW at r
      exact ⟨k, r, f.here S (by simp only [RelW])⟩
    | _ => exact f.elim
def fNeg (w : W) (h : MH) : Res W := match w with
  | .int i => .ok (.int (-i)) h
  | _ => .stuck
theorem m_neg {ma : Dn W} (ha : PE X a (tE g Wx ma)) : PE X (.UnaryOp .USub a pos) (tE g Wx (dOne fNeg ma)) :=
  weak (pe_un un_neg ha) fun σ H Q q => one_reads (R1 := RelW g) q fun ρ h H x vx S r f => by
    cases x with
    | int i =>
      unfold RelW at r
      exact ⟨i, r, f.here S (by simp only [RelW])⟩
    | _ => exact f.elim

/-! ### lists of arguments, displays -/
def dNil : Dn (List W) := fun _ h => .ok [] h
def dCons (m : Dn W) (r : Dn (List W)) : Dn (List W) := dTwo (fun x xs h => .ok (x :: xs) h) m r
theorem ma_nil : PA X [] (tA g Wx dNil) := weakA pa_nil fun σ H Q q => by
  obtain ⟨ρ, ws, h, S, sl, fin⟩ := q
  exact Fin.here (R := RelWs g) (a := []) S RelWs.nil fin
theorem ma_cons {es : List Expr} {m : Dn W} {r : Dn (List W)} (ha : PE X e (tE g Wx m)) (hr : PA X es (tA g Wx r)) (hs : starEach (e :: es) X.env = (false, eval e X.env) :: starEach es X.env := by rfl) : PA X (e :: es) (tA g Wx (dCons m r)) :=
  weakA (pa_cons ha hr hs) fun σ H Q q => two_reads (R1 := RelW g) (R2 := RelWs g) (R3 := RelWs g) (fun X q => q.ext X) q fun ρ h H x y vx vy S r1 r2 f => f.here S (.cons r1 r2)
/-- a display's length -/
def lenOk (xs : List W) : Bool := Nat.ble xs.length 16777216
theorem lenOk_ok {ρ n H} {xs : List W} {vs : List V} (e : lenOk xs = true) (r : RelWs g ρ n H xs vs) : vs.length ≤ sizeLine := by
  rw [r.len, sizeLine_eq]; exact Nat.le_of_ble_eq_true e
def fTup (xs : List W) (h : MH) : Res W := match lenOk xs with
  | true => .ok (.tup xs) h
  | false => .stuck
def fLst (xs : List W) (h : MH) : Res W := match lenOk xs with
  | true => .ok (.ref h.n) (h.push (.lst xs))
  | false => .stuck
theorem m_tup {es : List Expr} {r : Dn (List W)} {x1} (ha : PA X es (tA g Wx r)) : PE X (.Tuple es x1 pos) (tE g Wx (dOne fTup r)) :=
  weak (pe_tup ha) fun σ H Q q => one_reads (R1 := RelWs g) q fun ρ h H x vx S r f => by
    unfold fTup at f
    cases e : lenOk x with
    | false => rw [e] at f; exact f.elim
    | true =>
      rw [e] at f
      exact ⟨lenOk_ok e r, fun p hp => f.tup S r hp⟩
theorem m_lst {es : List Expr} {r : Dn (List W)} (ha : PA X es (tA g Wx r)) : PE X (.List es pos) (tE g Wx (dOne fLst r)) :=
  weak (pe_lst ha) fun σ H Q q => one_reads (R1 := RelWs g) q fun ρ h H x vx S r f => by
    unfold fLst at f
    cases e : lenOk x with
    | false => rw [e] at f; exact f.elim
    | true =>
      rw [e] at f
      exact ⟨lenOk_ok e r, fun p hp => f.push S r hp⟩

/-! ### calls -/
/-- the promise of a def whose worth is m -/
def spM (g : Gd) (m : List W → MH → Res W) (np : Nat) : Sp := fun vs H Q E => vs.length = np ∧ ∃ ρ ws h, Sim g ρ h H ∧ RelWs g ρ h.n H ws vs ∧ Fin g (RelW g) ρ h H Q E (m ws h)
def chkN (np : Nat) (m : List W → MH → Res W) (ws : List W) (h : MH) : Res W := match Nat.beq ws.length np with
  | true => m ws h
  | false => .stuck
theorem m_call {k np : Nat} {f : Addr} {fd : FuncData} {ps : List Str} {m : List W → MH → Res W} {x : Str} {p : Pos} {es : List Expr} {r : Dn (List W)} (F : FnOk X.prog X.w X.K X.mg X.base (L2.CX X.prog X.w) k f fd ps (spM g m np)) (hr : Room k X.A) (hg : Gl X x) (hm : X.mg x = some (.ref f))
    (hk : PySem.W.keepIn X.K (.ref f) = true) (hb : Binds X.K fd ps []) (tk : Takes X Wx) (ha : PA X (e :: es) (tA g Wx r)) (hdb : (x == ("__debug__" : Str)) = false := by decide)
    (he : starEach (e :: es) X.env = (false, eval e X.env) :: starEach es X.env := by rfl) (hpl : (backTo pos (starEach es X.env)).any (·.1) = false := by rfl) :
    PE X (.Call (.Name x p) (e :: es) [] pos) (tE g Wx (dOne (chkN np m) r)) := by
  refine weak (pe_callS (E := WE Wx) F hr hg hm hk hb (fun σ => passAt tk σ) ha hdb he hpl) fun σ H Q q => one_reads (R1 := RelWs g) q fun ρ h H x vx S r f => ?_
  unfold chkN at f
  cases e : Nat.beq x.length np with
  | false => rw [e] at f; exact f.elim
  | true =>
    rw [e] at f
    exact ⟨by rw [r.len]; exact Nat.eq_of_beq_eq_true e, ρ, x, h, S, r, f⟩
def dCall0 (m : List W → MH → Res W) : Dn W := fun _ h => m [] h
theorem m_call0 {k : Nat} {f : Addr} {fd : FuncData} {ps : List Str} {m : List W → MH → Res W} {x : Str} {p : Pos} (F : FnOk X.prog X.w X.K X.mg X.base (L2.CX X.prog X.w) k f fd ps (spM g m 0)) (hr : Room k X.A) (hg : Gl X x) (hm : X.mg x = some (.ref f))
    (hk : PySem.W.keepIn X.K (.ref f) = true) (hb : Binds X.K fd ps []) (tk : Takes X Wx) (hdb : (x == ("__debug__" : Str)) = false := by decide) :
    PE X (.Call (.Name x p) [] [] pos) (tE g Wx (dCall0 m)) := by
  refine ⟨fun pins s σ H Q I q => ?_⟩
  obtain ⟨ρ, ws, h, S, sl, f⟩ := q
  refine wpAny_Call_Name_kw (ld_glob I hg hm ?_ hdb)
  exact PySem.W.callWith_K0 I.kIn hk (run_fnS (us := []) (E := WE Wx) F hr hb (passAt tk σ) I .nil ⟨rfl, ρ, [], h, S, RelWs.nil, f⟩)
/-- a built-in function or class, called -/
def CallS (g : Gd) (r : List V → Hp → VK → Prop) (f : List W → MH → Res W) : Prop := ∀ ρ h H xs vs (Q : VK) (E : XK), Sim g ρ h H → RelWs g ρ h.n H xs vs → Fin g (RelW g) ρ h H Q E (f xs h) → r vs H Q
theorem m_callB {id : String} {r : List V → Hp → VK → Prop} {f : List W → MH → Res W} {x : Str} {p : Pos} {es : List Expr} {ra : Dn (List W)} (hc : CallR X (.builtin id) r) (o : CallS g r f) (hg : Gl X x) (hm : X.mg x = none) (hv : bootBuiltins x = some (.builtin id))
    (ha : PA X (e :: es) (tA g Wx ra)) (hn : x ≠ "__name__" := by decide) (hdb : (x == ("__debug__" : Str)) = false := by decide) (he : starEach (e :: es) X.env = (false, eval e X.env) :: starEach es X.env := by rfl) (hpl : (backTo pos (starEach es X.env)).any (·.1) = false := by rfl) :
    PE X (.Call (.Name x p) (e :: es) [] pos) (tE g Wx (dOne f ra)) :=
  weak (pe_callB hc hg hm hv ha hn hdb he hpl) fun σ H Q q => one_reads (R1 := RelWs g) q fun ρ h H x vx S r f => o ρ h H x vx Q _ S r f
theorem m_callTy {T : String} {r : List V → Hp → VK → Prop} {f : List W → MH → Res W} {x : Str} {p : Pos} {es : List Expr} {ra : Dn (List W)} (hc : CallR X (.type T) r) (o : CallS g r f) (hg : Gl X x) (hm : X.mg x = none) (hv : bootBuiltins x = some (.type T))
    (ha : PA X (e :: es) (tA g Wx ra)) (hn : x ≠ "__name__" := by decide) (hdb : (x == ("__debug__" : Str)) = false := by decide) (he : starEach (e :: es) X.env = (false, eval e X.env) :: starEach es X.env := by rfl) (hpl : (backTo pos (starEach es X.env)).any (·.1) = false := by rfl) :
    PE X (.Call (.Name x p) (e :: es) [] pos) (tE g Wx (dOne f ra)) :=
  weak (pe_callTy hc hg hm hv ha hn hdb he hpl) fun σ H Q q => one_reads (R1 := RelWs g) q fun ρ h H x vx S r f => o ρ h H x vx Q _ S r f
theorem m_callBfun {id : String} {r : List V → Hp → VK → Prop} {f : List W → MH → Res W} {x : Str} {p : Pos} {es : List Expr} {ra : Dn (List W)} (hc : CallR X (.builtin id) r) (o : CallS g r f) (hg : Gl X x) (hm : X.mg x = some (.builtin id))
    (ha : PA X (e :: es) (tA g Wx ra)) (hdb : (x == ("__debug__" : Str)) = false := by decide) (he : starEach (e :: es) X.env = (false, eval e X.env) :: starEach es X.env := by rfl) (hpl : (backTo pos (starEach es X.env)).any (·.1) = false := by rfl) :
    PE X (.Call (.Name x p) (e :: es) [] pos) (tE g Wx (dOne f ra)) :=
  weak (pe_callBfun hc hg hm ha hdb he hpl) fun σ H Q q => one_reads (R1 := RelWs g) q fun ρ h H x vx S r f => o ρ h H x vx Q _ S r f

end
end M

set_option Elab.async false
set_option linter.all false
set_option maxRecDepth 100000
set_option maxHeartbeats 4000000
namespace M
open PySem PySem.Spec PyProof.Rows L2

/-! # Statements -/
inductive SR where
  | nx (ws : WS) (h : MH) | rt (w : W) (h : MH) | bk (ws : WS) (h : MH) | ct (ws : WS) (h : MH) | exc (ws : WS) (c : Nat) (fs : List (Str × W)) (h : MH) | stuck
abbrev DS := WS → MH → SR
def FinS (g : Gd) (ρ : Nat → Addr) (h : MH) (H : Hp) (D : Ends) (Wx : WX) : SR → Prop
  | .nx ws h' => ∀ ρ' H' σ', Ext ρ h.n H ρ' h'.n H' → Sim g ρ' h' H' → Sl g ρ' h'.n H' ws σ' → D.nx σ' H'
  | .rt w h' => ∀ ρ' H' v, Ext ρ h.n H ρ' h'.n H' → Sim g ρ' h' H' → RelW g ρ' h'.n H' w v → D.rt v H'
  | .bk ws h' => ∀ ρ' H' σ', Ext ρ h.n H ρ' h'.n H' → Sim g ρ' h' H' → Sl g ρ' h'.n H' ws σ' → D.bk σ' H'
  | .ct ws h' => ∀ ρ' H' σ', Ext ρ h.n H ρ' h'.n H' → Sim g ρ' h' H' → Sl g ρ' h'.n H' ws σ' → D.ct σ' H'
  | .exc ws c fs h' => ∀ ρ' H' σ' cls d, Ext ρ h.n H ρ' h'.n H' → Sim g ρ' h' H' → Sl g ρ' h'.n H' ws σ' → RelX g ρ' h'.n H' c fs cls d → Wx cls d σ' H'
  | .stuck => False
def tS (g : Gd) (Wx : WX) (m : DS) : TS := fun D σ H => ∃ ρ ws h, Sim g ρ h H ∧ Sl g ρ h.n H ws σ ∧ FinS g ρ h H D Wx (m ws h)
/-- an expression's answer, then f -/
def Res.bndS {α : Type} (r : Res α) (ws : WS) (f : α → MH → SR) : SR := match r with
  | .ok a h => f a h
  | .exc c fs h => .exc ws c fs h
  | .stuck => .stuck
section
variable {g : Gd} {X : Cx} {Wx : WX} {e a b c : Expr} {pos : Pos} {ρ ρ1 : Nat → Addr} {h h1 : MH} {H H1 : Hp} {D : Ends} {r : SR}
theorem FinS.later (E : Ext ρ h.n H ρ1 h1.n H1) (f : FinS g ρ h H D Wx r) : FinS g ρ1 h1 H1 D Wx r := by
  cases r with
  | nx ws h' => exact fun ρ' H' σ' x s q => f ρ' H' σ' (E.trans x) s q
  | rt w h' => exact fun ρ' H' σ' x s q => f ρ' H' σ' (E.trans x) s q
  | bk ws h' => exact fun ρ' H' σ' x s q => f ρ' H' σ' (E.trans x) s q
  | ct ws h' => exact fun ρ' H' σ' x s q => f ρ' H' σ' (E.trans x) s q
  | exc ws c fs h' => exact fun ρ' H' σ' cls d x s q => f ρ' H' σ' cls d (E.trans x) s q
  | stuck => exact f
def dOneS {α : Type} (f : α → WS → MH → SR) (m : Dn α) : DS := fun ws h => (m ws h).bndS ws fun a h1 => f a ws h1
theorem oneS_reads {α α' : Type} {R : RR α α'} {f : α → WS → MH → SR} {m : Dn α} {σ : L2.St} {G : α' → Hp → Prop} (x : tS g Wx (dOneS f m) D σ H)
    (k : ∀ ρ h H x vx ws, Sim g ρ h H → R ρ h.n H x vx → Sl g ρ h.n H ws σ → FinS g ρ h H D Wx (f x ws h) → G vx H) : tG g R Wx m σ H G := by
  obtain ⟨ρ, ws, h, S, sl, fin⟩ := x
  refine ⟨ρ, ws, h, S, sl, ?_⟩
  unfold dOneS at fin
  cases q : m ws h with
  | ok a h1 =>
    rw [q] at fin
    exact fun ρ1 H1 b X1 S1 r1 => k ρ1 h1 H1 a b ws S1 r1 (sl.ext X1) (FinS.later X1 fin)
  | exc c fs h' =>
    rw [q] at fin
    exact fun ρ' H' cls d x s q => fin ρ' H' σ cls d x s (sl.ext x) q
  | stuck => rw [q] at fin; exact fin
theorem weakS {st : Stmt} {t t' : TS} (x : PS X st t) (w : ∀ D σ H, t' D σ H → t D σ H) : PS X st t' := ⟨fun pins s σ H D I q => x.run pins s σ H D I (w D σ H q)⟩
theorem weakSs {st : List Stmt} {t t' : TS} (x : PSs X st t) (w : ∀ D σ H, t' D σ H → t D σ H) : PSs X st t' := ⟨fun pins s σ H D I q => x.run pins s σ H D I (w D σ H q)⟩
theorem FinS.nx0 {ws : WS} {σ : L2.St} (S : Sim g ρ h H) (sl : Sl g ρ h.n H ws σ) (f : FinS g ρ h H D Wx (.nx ws h)) : D.nx σ H := f ρ H σ S.refl S sl
theorem FinS.rt0 {w : W} {v : V} (S : Sim g ρ h H) (r : RelW g ρ h.n H w v) (f : FinS g ρ h H D Wx (.rt w h)) : D.rt v H := f ρ H v S.refl S r

def dNext : DS := fun ws h => .nx ws h
theorem ms_nil : PSs X [] (tS g Wx dNext) := weakSs pss_nil fun D σ H ⟨ρ, ws, h, S, sl, f⟩ => f.nx0 S sl
theorem ms_pass : PS X (.Pass pos) (tS g Wx dNext) := weakS ps_pass fun D σ H ⟨ρ, ws, h, S, sl, f⟩ => f.nx0 S sl
def dSeq (a b : DS) : DS := fun ws h => match a ws h with
  | .nx ws' h' => b ws' h'
  | r => r
theorem ms_cons {st : Stmt} {rest : List Stmt} {ma mb : DS} (ha : PS X st (tS g Wx ma)) (hb : PSs X rest (tS g Wx mb)) : PSs X (st :: rest) (tS g Wx (dSeq ma mb)) :=
  weakSs (pss_cons ha hb) fun D σ H ⟨ρ, ws, h, S, sl, f⟩ => by
    refine ⟨ρ, ws, h, S, sl, ?_⟩
    unfold dSeq at f
    cases q : ma ws h with
    | nx ws' h' =>
      rw [q] at f
      exact fun ρ' H' σ' x s y => ⟨ρ', ws', h', s, y, FinS.later x f⟩
    | rt w h' => rw [q] at f; exact f
    | bk ws h' => rw [q] at f; exact f
    | ct ws h' => rw [q] at f; exact f
    | exc ws c fs h' => rw [q] at f; exact f
    | stuck => rw [q] at f; exact f
theorem ms_one {st : Stmt} {m : DS} (h : PS X st (tS g Wx m)) : PSs X [st] (tS g Wx m) := pss_one h
def dBreak : DS := fun ws h => .bk ws h
def dCont : DS := fun ws h => .ct ws h
theorem ms_break : PS X (.Break pos) (tS g Wx dBreak) := weakS ps_break fun D σ H ⟨ρ, ws, h, S, sl, f⟩ => f ρ H σ S.refl S sl
theorem ms_cont : PS X (.Continue pos) (tS g Wx dCont) := weakS ps_continue fun D σ H ⟨ρ, ws, h, S, sl, f⟩ => f ρ H σ S.refl S sl
theorem ms_doc {x j pos pos'} : PS X (.Expr (.Constant (.str x) j pos) pos') (tS g Wx dNext) := weakS ps_doc fun D σ H ⟨ρ, ws, h, S, sl, f⟩ => f.nx0 S sl
def dExpr (m : Dn W) : DS := dOneS (fun _ ws h => .nx ws h) m
theorem ms_expr {m : Dn W} (he : PE X e (tE g Wx m)) (hs : swapsWith e none pos.line X.env = pure false := by rfl) : PS X (.Expr e pos) (tS g Wx (dExpr m)) :=
  weakS (ps_expr he hs) fun D σ H q => oneS_reads (R := RelW g) q fun ρ h H x vx ws S r sl f => f.nx0 S sl
def dRet (m : Dn W) : DS := dOneS (fun w _ h => .rt w h) m
theorem ms_ret {m : Dn W} (he : PE X e (tE g Wx m)) : PS X (.Return (some e) pos) (tS g Wx (dRet m)) :=
  weakS (ps_ret he) fun D σ H q => oneS_reads (R := RelW g) q fun ρ h H x vx ws S r sl f => f.rt0 S r
def dIfS (c : Dn Bool) (a b : DS) : DS := dOneS (fun k ws h => match k with | true => a ws h | false => b ws h) c
theorem ms_if {mc : Dn Bool} {ma mb : DS} {sa sb : List Stmt} (hc : PT X c (tT g Wx mc)) (ha : PSs X sa (tS g Wx ma)) (hb : PSs X sb (tS g Wx mb)) : PS X (.If c sa sb pos) (tS g Wx (dIfS mc ma mb)) :=
  weakS (ps_if hc ha hb) fun D σ H q => oneS_reads (R := RB) q fun ρ h H x vx ws S r sl f => by
    have e : x = vx := r
    subst e
    cases x with
    | true => exact ⟨ρ, ws, h, S, sl, f⟩
    | false => exact ⟨ρ, ws, h, S, sl, f⟩

/-! ### targets -/
/-- f is what the target asks; us: the slots that it stores -/
structure GS (g : Gd) (us : List Nat) (t : TG) (f : W → WS → Option WS) : Prop where
  go : ∀ ρ h H w v ws σ (Q : L2.St → Hp → Prop), Sim g ρ h H → RelW g ρ h.n H w v → Sl g ρ h.n H ws σ → ∀ ws', f w ws = some ws' → (∀ σ', Sl g ρ h.n H ws' σ' → (∀ vs : List Nat, (∀ i ∈ us, i ∈ vs) → wipe σ' vs = wipe σ vs) → Q σ' H) → t v σ H Q
structure GSs (g : Gd) (us : List Nat) (t : TGs) (f : List W → WS → Option WS) : Prop where
  go : ∀ ρ h H xs vs ws σ (Q : L2.St → Hp → Prop), Sim g ρ h H → RelWs g ρ h.n H xs vs → Sl g ρ h.n H ws σ → ∀ ws', f xs ws = some ws' → (∀ σ', Sl g ρ h.n H ws' σ' → (∀ vs : List Nat, (∀ i ∈ us, i ∈ vs) → wipe σ' vs = wipe σ vs) → Q σ' H) → t vs σ H Q
theorem wipe_none {σ : L2.St} {i : Nat} : ∀ {vs : List Nat}, i ∈ vs → i < σ.length → (wipe σ vs)[i]? = some none
  | [], q, _ => by cases q
  | v :: vs, q, l => by
    unfold wipe
    by_cases e : v = i
    · subst e
      rw [List.getElem?_set_self (by rw [wipe_length]; exact l)]
    · rw [List.getElem?_set_ne e]
      refine wipe_none (vs := vs) ?_ l
      rcases List.mem_cons.mp q with z | z
      · exact absurd z.symm e
      · exact z
theorem wipe_out' {σ : L2.St} {i : Nat} : ∀ {vs : List Nat}, i ∉ vs → (wipe σ vs)[i]? = σ[i]?
  | [], _ => rfl
  | v :: vs, q => by
    unfold wipe
    rw [List.getElem?_set_ne (fun e => q (by simp [e]))]
    exact wipe_out' fun z => q (List.mem_cons_of_mem _ z)
theorem wipe_set {σ : L2.St} {i : Nat} {v : Option V} {vs : List Nat} (hi : i ∈ vs) : wipe (σ.set i v) vs = wipe σ vs := by
  apply List.ext_getElem?
  intro j
  by_cases hj : j ∈ vs
  · by_cases l : j < σ.length
    · rw [wipe_none hj (by simpa using l), wipe_none hj l]
    · rw [List.getElem?_eq_none (by rw [wipe_length]; simpa using l), List.getElem?_eq_none (by rw [wipe_length]; simpa using l)]
  · rw [wipe_out' hj, wipe_out' hj, List.getElem?_set_ne (fun e => hj (by rw [← e]; exact hi))]
def bName (i : Nat) : W → WS → Option WS := fun w ws => some (ws.set i (some w))
theorem Sl.set {n : Nat} {ws : WS} {σ : L2.St} {i : Nat} {w : W} {v : V} (sl : Sl g ρ n H ws σ) (r : RelW g ρ n H w v) : Sl g ρ n H (ws.set i (some w)) (σ.set i (some v)) := by
  refine ⟨by simp [sl.1], fun j x e => ?_⟩
  by_cases q : i = j
  · subst q
    by_cases l : i < ws.length
    · rw [List.getElem?_set_self l] at e
      injection e with e; injection e with e
      subst e
      exact ⟨v, by rw [List.getElem?_set_self (by rw [← sl.1]; exact l)], r⟩
    · rw [List.getElem?_eq_none (by simpa using l)] at e; cases e
  · rw [List.getElem?_set_ne q] at e ⊢
    exact sl.2 j x e
theorem gs_name (i : Nat) : GS g [i] (gName i) (bName i) := ⟨fun ρ h H w v ws σ Q S r sl ws' e k => by
  unfold bName at e
  injection e with e
  subst e
  exact k _ (sl.set r) fun vs hv => wipe_set (hv i (by simp))⟩
def bNil : List W → WS → Option WS := fun xs ws => match xs with
  | [] => some ws
  | _ => none
def bCons (f : W → WS → Option WS) (r : List W → WS → Option WS) : List W → WS → Option WS := fun xs ws => match xs with
  | x :: xs => (f x ws).bind fun ws' => r xs ws'
  | [] => none
theorem gs_nil : GSs g [] gNil bNil := ⟨fun ρ h H xs vs ws σ Q S r sl ws' e k => by
  unfold bNil at e
  cases xs with
  | nil =>
    injection e with e
    subst e
    exact ⟨r.inv_nil, k σ sl fun _ _ => rfl⟩
  | cons x xs => cases e⟩
theorem gs_cons {us us' : List Nat} {t : TG} {u : TGs} {f : W → WS → Option WS} {r : List W → WS → Option WS} (a : GS g us t f) (b : GSs g us' u r) : GSs g (us ++ us') (gCons t u) (bCons f r) := ⟨fun ρ h H xs vs ws σ Q S rr sl ws' e k => by
  unfold bCons at e
  cases xs with
  | nil => cases e
  | cons x xs =>
    obtain ⟨v, vr, rfl, r1, r2⟩ := rr.inv_cons
    obtain ⟨ws1, e1, e2⟩ := Option.bind_eq_some_iff.mp e
    refine ⟨v, vr, rfl, a.go ρ h H x v ws σ _ S r1 sl ws1 e1 fun σ1 sl1 w1 => ?_⟩
    refine b.go ρ h H xs vr ws1 σ1 _ S r2 sl1 ws' e2 fun σ2 sl2 w2 => k σ2 sl2 fun vs hv => ?_
    rw [w2 vs fun i hi => hv i (List.mem_append_right _ hi), w1 vs fun i hi => hv i (List.mem_append_left _ hi)]⟩
def bTup (n : Nat) (f : List W → WS → Option WS) : W → WS → Option WS := fun w ws => match w with
  | .tup xs => (match Nat.beq xs.length n with
    | true => f xs ws
    | false => none)
  | _ => none
theorem gs_tup {K : PySem.W.Frag} {us : List Nat} {n : Nat} {t : TGs} {f : List W → WS → Option WS} (a : GSs g us t f) : GS g us (gTup K n t) (bTup n f) := ⟨fun ρ h H w v ws σ Q S r sl ws' e k => by
  unfold bTup at e
  cases w with
  | tup xs =>
    simp only [RelW] at r
    obtain ⟨ad, vs, rfl, e2, e3⟩ := r
    cases q : Nat.beq xs.length n with
    | false => simp only [q] at e; cases e
    | true =>
      simp only [q] at e
      exact ⟨ad, vs, rfl, SqT.of e2, by rw [e3.len]; exact Nat.eq_of_beq_eq_true q, a.go ρ h H xs vs ws σ Q S e3 sl ws' e k⟩
  | _ => cases e⟩
def dAsg (m : Dn W) (f : W → WS → Option WS) : DS := dOneS (fun w ws h => match f w ws with | some ws' => .nx ws' h | none => .stuck) m
theorem asg_reads {us : List Nat} {t : TG} {f : W → WS → Option WS} (G : GS g us t f) {m : Dn W} {σ : L2.St} (q : tS g Wx (dAsg m f) D σ H) : tAsg (tE g Wx m) t D σ H :=
  oneS_reads (R := RelW g) q fun ρ h H x vx ws S r sl fin => by
    cases e : f x ws with
    | none => rw [e] at fin; exact fin.elim
    | some ws' =>
      rw [e] at fin
      exact G.go ρ h H x vx ws σ _ S r sl ws' e fun σ' sl' _ => fin.nx0 S sl'
theorem ms_set {i : Nat} {x : Str} {m : Dn W} {pos' : Pos} (hN : X.N.Nodup) (hi : X.N[i]? = some x) (hx : Loc X.env.scope x) (he : PE X e (tE g Wx m)) (hs : swapsWith e (some (.Name x pos')) pos.line X.env = pure false := by rfl)
    (hf : X.fn x = true ∨ X.env.scope.names.lookup x = some .local := by first | exact .inl rfl | exact .inr rfl | assumption) : PS X (.Assign [.Name x pos'] e pos) (tS g Wx (dAsg m (bName i))) :=
  weakS (ps_set hN hi hx he hs hf) fun D σ H q => asg_reads (gs_name i) q
theorem ms_asg {us : List Nat} {tg : Expr} {t : TG} {f : W → WS → Option WS} {m : Dn W} (he : PE X e (tE g Wx m)) (hg : PG X tg t) (G : GS g us t f) (hs : swapsWithSole [tg] e pos.line X.env = pure false := by rfl) (hw : swappedStores [tg] e X.env = pure none := by rfl)
    (h1 : (assignEach [tg] X.env).map (·.2) = [assign tg X.env] := by rfl) : PS X (.Assign [tg] e pos) (tS g Wx (dAsg m f)) :=
  weakS (ps_asg he hg hs hw h1) fun D σ H q => asg_reads G q
/-- a, b = x, y -/
def dPar (i j : Nat) (m : Dn (List W)) : DS := dOneS (fun xs ws h => match xs with | [x, y] => .nx ((ws.set i (some x)).set j (some y)) h | _ => .stuck) m
theorem ms_par {i j : Nat} {x y : Str} {m : Dn (List W)} {px py pt : Pos} {kt k2 pt2} (hc : X.calm = true) (hN : X.N.Nodup) (hi : X.N[i]? = some x) (hj : X.N[j]? = some y) (hij : i ≠ j)
    (hx : X.env.scope.names.lookup x = some .local) (hy : X.env.scope.names.lookup y = some .local) (ha : PA X [a, b] (tA g Wx m))
    (hw : swappedStores [.Tuple [.Name x px, .Name y py] kt pt] (.Tuple [a, b] k2 pt2) X.env = pure (some [x, y]))
    (hs : swapsWithSole [.Tuple [.Name x px, .Name y py] kt pt] (.Tuple [a, b] k2 pt2) pos.line X.env = pure false := by rfl) :
    PS X (.Assign [.Tuple [.Name x px, .Name y py] kt pt] (.Tuple [a, b] k2 pt2) pos) (tS g Wx (dPar i j m)) :=
  weakS (ps_par hc hN hi hj hij hx hy ha hw hs) fun D σ H q => oneS_reads (R := RelWs g) q fun ρ h H x vx ws S r sl fin => by
    match x, r, fin with
    | [w1, w2], r, fin =>
      obtain ⟨v1, _, rfl, r1, r⟩ := r.inv_cons
      obtain ⟨v2, _, rfl, r2, r⟩ := r.inv_cons
      rw [r.inv_nil]
      exact ⟨v1, v2, rfl, fin.nx0 S ((sl.set r1).set r2)⟩
    | [], _, fin => exact fin.elim
    | [_], _, fin => exact fin.elim
    | _ :: _ :: _ :: _, _, fin => exact fin.elim
def dPar3 (i j l : Nat) (m : Dn (List W)) : DS := dOneS (fun xs ws h => match xs with | [x, y, z] => .nx (((ws.set i (some x)).set j (some y)).set l (some z)) h | _ => .stuck) m
theorem par3_reads {i j l : Nat} {m : Dn (List W)} {σ : L2.St} (q : tS g Wx (dPar3 i j l m) D σ H) : tPar3 i j l (tA g Wx m) D σ H :=
  oneS_reads (R := RelWs g) q fun ρ h H x vx ws S r sl fin => by
    match x, r, fin with
    | [w1, w2, w3], r, fin =>
      obtain ⟨v1, _, rfl, r1, r⟩ := r.inv_cons
      obtain ⟨v2, _, rfl, r2, r⟩ := r.inv_cons
      obtain ⟨v3, _, rfl, r3, r⟩ := r.inv_cons
      rw [r.inv_nil]
      exact ⟨v1, v2, v3, rfl, fin.nx0 S (((sl.set r1).set r2).set r3)⟩
    | [], _, fin => exact fin.elim
    | [_], _, fin => exact fin.elim
    | [_, _], _, fin => exact fin.elim
    | _ :: _ :: _ :: _ :: _, _, fin => exact fin.elim
end
end M

set_option Elab.async false
set_option linter.all false
set_option maxRecDepth 100000
set_option maxHeartbeats 4000000
namespace M
open PySem PySem.Spec PyProof.Rows L2

/-! # What is walked -/
/-- at turn i: none: not known; some none: the end; some (some w): w -/
abbrev Nx := Nat → MH → Option (Option W)
structure ItOk (g : Gd) (J : It) (P : (Nat → Addr) → Nat → Hp → Prop) (nx : Nx) : Prop where
  ext : ∀ {ρ n H ρ' n' H'}, Ext ρ n H ρ' n' H' → P ρ n H → P ρ' n' H'
  out2 : ∀ {ρ : Nat → Addr} {n : Nat} {H : Hp} {p : Addr} {o1 o2 : HO}, H p = some o1 → Loose o1 → (∀ i, i < n → ρ i ≠ p) → P ρ n H → P ρ n (upd H p o2)
  go : ∀ ρ h H i w, Sim g ρ h H → P ρ h.n H → nx i h = some (some w) → J.go i H ∧ ∀ v H', J.yld i H v H' → Ext ρ h.n H ρ h.n H' ∧ Sim g ρ h H' ∧ RelW g ρ h.n H' w v
  stop : ∀ ρ h H i, Sim g ρ h H → P ρ h.n H → nx i h = some none → J.stop i H
/-- the source of a loop -/
def tI (g : Gd) (Wx : WX) (m : Dn Nx) : TI := fun σ H R => ∃ ρ ws h, Sim g ρ h H ∧ Sl g ρ h.n H ws σ ∧ Fin g (fun ρ' n' H' (nx : Nx) (J : It) => ∃ P, ItOk g J P nx ∧ P ρ' n' H') ρ h H (fun J H' => R J H') (fun c d H' => Wx c d σ H') (m ws h)
theorem weakI {X : Cx} {tg iter : Expr} {t t' : TI} (x : PI X tg iter t) (w : ∀ σ H R, t' σ H R → t σ H R) : PI X tg iter t' := ⟨fun pins s σ H R I q => x.run pins s σ H R I (w σ H R q)⟩

def nTup (xs : List W) : Nx := fun i _ => some xs[i]?
def nCell (k : Nat) : Nx := fun i h => match h.get k with
  | some (.lst xs) => some xs[i]?
  | _ => none
def nRng (lo : Int) (n : Nat) : Nx := fun i _ => some (match Nat.blt i n with
  | true => some (.int (lo + i))
  | false => none)
section
variable {g : Gd}
theorem ok_tup {a : Addr} {vs : List V} {xs : List W} : ItOk g (Itt g.K a) (fun ρ n H => H a = some (.tup vs) ∧ RelWs g ρ n H xs vs) (nTup xs) where
  ext := fun E ⟨e, r⟩ => ⟨E.tups _ _ e, r.ext E⟩
  out2 := fun hp l hr ⟨e, r⟩ => ⟨by rw [upd_ne (ne_of e hp l.tup)]; exact e, r.out2 hp l⟩
  go := fun ρ h H i w S ⟨e, r⟩ q => by
    have q' : xs[i]? = some w := Option.some.inj q
    obtain ⟨v, e1, e2⟩ := r.get q'
    refine ⟨⟨vs, v, SqT.of e, e1⟩, fun v' H' y => ?_⟩
    obtain ⟨rfl, y⟩ := y
    have := y vs (SqT.of e)
    rw [e1] at this; cases this
    exact ⟨S.refl, S, e2⟩
  stop := fun ρ h H i S ⟨e, r⟩ q => by
    have q' : xs[i]? = none := Option.some.inj q
    have := r.none q'
    exact ⟨vs, SqT.of e, by rw [List.getElem?_eq_none_iff] at this; exact this⟩
theorem ok_fro {a : Addr} {vs : List V} {xs : List W} : ItOk g (Itl g.K a) (fun ρ n H => Fro g.K H a vs ∧ RelWs g ρ n H xs vs) (nTup xs) where
  ext := fun E ⟨e, r⟩ => ⟨e.ext E, r.ext E⟩
  out2 := fun hp l hr ⟨e, r⟩ => ⟨by
    rcases e with ⟨o, e⟩ | e
    · exact .inl ⟨o, by rw [upd_ne (ne_of e hp l.frz)]; exact e⟩
    · exact .inr e, r.out2 hp l⟩
  go := fun ρ h H i w S ⟨e, r⟩ q => by
    have q' : xs[i]? = some w := Option.some.inj q
    obtain ⟨v, e1, e2⟩ := r.get q'
    refine ⟨⟨vs, v, e.sql, e1⟩, fun v' H' y => ?_⟩
    obtain ⟨rfl, y⟩ := y
    have := y vs e.sql
    rw [e1] at this; cases this
    exact ⟨S.refl, S, e2⟩
  stop := fun ρ h H i S ⟨e, r⟩ q => by
    have q' : xs[i]? = none := Option.some.inj q
    have := r.none q'
    exact ⟨vs, e.sql, by rw [List.getElem?_eq_none_iff] at this; exact this⟩
theorem nCell_some {k : Nat} {h : MH} {i : Nat} {o : Option W} (q : nCell k i h = some o) : ∃ xs, h.get k = some (.lst xs) ∧ xs[i]? = o := by
  unfold nCell at q
  split at q
  · rename_i xs e
    exact ⟨xs, e, Option.some.inj q⟩
  · cases q
theorem ok_cell {a : Addr} {k : Nat} : ItOk g (Itl g.K a) (fun ρ n H => k < n ∧ ρ k = a) (nCell k) where
  ext := fun E ⟨e, r⟩ => ⟨Nat.lt_of_lt_of_le e E.le, by rw [E.eq k e]; exact r⟩
  out2 := fun hp l hr q => q
  go := fun ρ h H i w S ⟨e, r⟩ q => by
    obtain ⟨xs, e1, e2⟩ := nCell_some q
    obtain ⟨_, vs, e3, rr⟩ := S.atl e1
    rw [r] at e3
    obtain ⟨v, e4, e5⟩ := rr.get e2
    refine ⟨⟨vs, v, SqL.of e3, e4⟩, fun v' H' y => ?_⟩
    obtain ⟨rfl, y⟩ := y
    have := y vs (SqL.of e3)
    rw [e4] at this; cases this
    exact ⟨S.refl, S, e5⟩
  stop := fun ρ h H i S ⟨e, r⟩ q => by
    obtain ⟨xs, e1, e2⟩ := nCell_some q
    obtain ⟨_, vs, e3, rr⟩ := S.atl e1
    rw [r] at e3
    have := rr.none e2
    exact ⟨vs, SqL.of e3, by rw [List.getElem?_eq_none_iff] at this; exact this⟩
theorem ok_rng {lo : Int} {n : Nat} : ItOk g (Itr lo n) (fun _ _ _ => True) (nRng lo n) where
  ext := fun _ _ => trivial
  out2 := fun _ _ _ _ => trivial
  go := fun ρ h H i w S _ q => by
    unfold nRng at q
    cases e : Nat.blt i n with
    | false => simp [e] at q
    | true =>
      simp [e] at q
      refine ⟨show i < n from Nat.lt_of_succ_le (by simpa [Nat.blt] using e), fun v H' y => ?_⟩
      obtain ⟨rfl, rfl⟩ := y
      exact ⟨S.refl, S, by rw [← q]; simp only [RelW]⟩
  stop := fun ρ h H i S _ q => by
    unfold nRng at q
    cases e : Nat.blt i n with
    | true => simp [e] at q
    | false =>
      show n ≤ i
      have : ¬ i < n := fun z => by
        have z' : Nat.blt i n = true := by simpa [Nat.blt] using Nat.succ_le_of_lt z
        rw [e] at z'; cases z'
      omega
end
/-- a list or a tuple -/
def iAny (K : PySem.W.Frag) (tl : TE) : TI := fun σ H R => tl σ H fun x H1 => ∃ a, x = .ref a ∧ (((∃ xs, SqL K H1 a xs) ∧ R (Itl K a) H1) ∨ ((∃ xs, SqT K H1 a xs) ∧ R (Itt K a) H1))
section
variable {g : Gd} {X : Cx} {Wx : WX} {e : Expr} {pos : Pos} {tg : Expr}
theorem pi_any {l : Expr} {tl : TE} (hl : PE X l tl) : PI X tg l (iAny X.K tl) := by
  constructor
  intro pins s σ H R I h
  refine thn (hl.run pins s σ H _ I h) ?_
  rintro v s1 ⟨_, H1, I1, rv, a, rfl, q⟩
  cases rv
  -- the walker is a new object
  have later : ∀ {o : Obj}, Inv X pins σ H1 { s1 with heap := s1.heap.push o, toks := s1.toks } := fun {o} => I1.kept (t' := s1.toks) fun b u e => Heap.get?_push_of_some o e
  have only : ∀ b ∈ [s1.heap.objs.size], FpOk X pins H1 b := fun b hb => by
    rw [List.mem_singleton.mp hb]
    exact I1.fpOk (Nat.le_refl _) (I1.hok.fresh (Nat.le_refl _))
  rcases q with ⟨⟨xs, hq⟩, q⟩ | ⟨⟨xs, hq⟩, q⟩
  · obtain ⟨us, _, isL, _⟩ := I1.list hq
    exact wpAny_pyIter_list isL.isList ⟨_, _, _, _, H1, rfl, later, turn_list a _, ⟨_, Heap.get?_push_size _ rfl, rfl, rfl⟩, only, q⟩
  · obtain ⟨us, _, isT, _⟩ := I1.tuple hq
    have isT' : s1.heap.IsTuple a us.toArray := isT
    exact wpAny_pyIter_tuple isT' ⟨_, _, _, _, H1, rfl, later, turn_tuple a _, ⟨_, Heap.get?_push_size _ rfl, rfl, rfl⟩, only, q⟩
def fSrc (w : W) (h : MH) : Res Nx := match w with
  | .tup xs => .ok (nTup xs) h
  | .fro xs => .ok (nTup xs) h
  | .ref k => (match h.get k with | some (.lst _) => .ok (nCell k) h | _ => .stuck)
  | _ => .stuck
theorem oneI_reads {α α' : Type} {R : RR α α'} {f : α → MH → Res Nx} {m : Dn α} {σ : L2.St} {H : Hp} {RI : It → Hp → Prop} {G : α' → Hp → Prop}
    (x : tI g Wx (dOne f m) σ H RI) (k : ∀ ρ h H x vx, Sim g ρ h H → R ρ h.n H x vx → Fin g (fun ρ' n' H' (nx : Nx) (J : It) => ∃ P, ItOk g J P nx ∧ P ρ' n' H') ρ h H RI (fun c d H' => Wx c d σ H') (f x h) → G vx H) : tG g R Wx m σ H G := by
  obtain ⟨ρ, ws, h, S, sl, fin⟩ := x
  exact ⟨ρ, ws, h, S, sl, (Fin.bnd (R := R) fin).mono fun vx H1 ⟨ρ1, h1, wx, X1, S1, r1, f1⟩ => k ρ1 h1 H1 wx vx S1 r1 f1⟩
theorem mi_any (hK : X.K = g.K) {m : Dn W} (he : PE X e (tE g Wx m)) : PI X tg e (tI g Wx (dOne fSrc m)) :=
  weakI (pi_any he) fun σ H R q => oneI_reads (R := RelW g) q fun ρ h H x vx S r f => by
    rw [hK]
    cases x with
    | tup xs =>
      simp only [RelW] at r
      obtain ⟨a, vs, rfl, e2, e3⟩ := r
      exact ⟨a, rfl, .inr ⟨⟨vs, SqT.of e2⟩, f ρ H _ S.refl S ⟨_, ok_tup, e2, e3⟩⟩⟩
    | fro xs =>
      simp only [RelW] at r
      obtain ⟨a, vs, rfl, e2, e3⟩ := r
      exact ⟨a, rfl, .inl ⟨⟨vs, e2.sql⟩, f ρ H _ S.refl S ⟨_, ok_fro, e2, e3⟩⟩⟩
    | ref k =>
      simp only [RelW] at r
      obtain ⟨hk, rfl⟩ := r
      simp only [fSrc] at f
      split at f
      · rename_i xs e
        obtain ⟨_, vs, e3, rr⟩ := S.atl e
        exact ⟨_, rfl, .inl ⟨⟨vs, SqL.of e3⟩, f ρ H _ S.refl S ⟨_, ok_cell, hk, rfl⟩⟩⟩
      · exact f.elim
    | _ => exact f.elim
def smallI (i : Int) : Bool := decide (-(2 ^ 62) ≤ i) && decide (i < 2 ^ 62)
theorem smallI_ok {i : Int} (e : smallI i = true) : -(2 ^ 62) ≤ i ∧ i < 2 ^ 62 := by
  unfold smallI at e
  obtain ⟨a, b⟩ := Bool.and_eq_true_iff.mp e
  exact ⟨of_decide_eq_true a, of_decide_eq_true b⟩
def as1 : List W → Option Int
  | [.int i] => some i
  | _ => none
def as2 : List W → Option (Int × Int)
  | [.int i, .int j] => some (i, j)
  | _ => none
theorem as1_ok {xs : List W} {i : Int} (e : as1 xs = some i) : xs = [.int i] := by
  unfold as1 at e
  split at e
  · injection e with e; rw [e]
  · cases e
theorem as2_ok {xs : List W} {i : Int × Int} (e : as2 xs = some i) : xs = [.int i.1, .int i.2] := by
  unfold as2 at e
  split at e
  · injection e with e; rw [← e]
  · cases e
theorem RelWs.as1 {ρ n H} {i : Int} {vs : List V} (r : RelWs g ρ n H [.int i] vs) : vs = [.int i] := by
  obtain ⟨v1, _, rfl, r1, r⟩ := r.inv_cons
  rw [r.inv_nil]
  simp only [RelW] at r1
  rw [r1]
theorem RelWs.as2 {ρ n H} {i j : Int} {vs : List V} (r : RelWs g ρ n H [.int i, .int j] vs) : vs = [.int i, .int j] := by
  obtain ⟨v1, _, rfl, r1, r⟩ := r.inv_cons
  obtain ⟨v2, _, rfl, r2, r⟩ := r.inv_cons
  rw [r.inv_nil]
  simp only [RelW] at r1 r2
  rw [r1, r2]
def fRng1 (xs : List W) (h : MH) : Res Nx := match as1 xs with
  | some j => (match smallI j with | true => .ok (nRng 0 j.toNat) h | false => .stuck)
  | none => .stuck
def fRng2 (xs : List W) (h : MH) : Res Nx := match as2 xs with
  | some (i, j) => (match smallI i && smallI j with | true => .ok (nRng i (j - i).toNat) h | false => .stuck)
  | none => .stuck
theorem mi_rng1 {a : Expr} {p : Pos} {m : Dn (List W)} (hg : Gl X "range") (hm : X.mg "range" = none) (ha : PA X [a] (tA g Wx m)) (hs : starEach [a] X.env = [(false, eval a X.env)] := by rfl) : PI X tg (.Call (.Name "range" p) [a] [] pos) (tI g Wx (dOne fRng1 m)) :=
  weakI (pi_range1 hg hm ha hs) fun σ H R q => oneI_reads (R := RelWs g) q fun ρ h H x vx S r f => by
    unfold fRng1 at f
    cases e0 : as1 x with
    | none => simp only [e0] at f; exact f.elim
    | some j =>
      simp only [e0] at f
      rw [as1_ok e0] at r
      cases e : smallI j with
      | false => simp only [e] at f; exact f.elim
      | true =>
        simp only [e] at f
        obtain ⟨l1, l2⟩ := smallI_ok e
        exact ⟨j, r.as1, l1, l2, f ρ H _ S.refl S ⟨_, ok_rng, trivial⟩⟩
theorem mi_rng2 {a b : Expr} {p : Pos} {m : Dn (List W)} (hg : Gl X "range") (hm : X.mg "range" = none) (ha : PA X [a, b] (tA g Wx m)) (hs : starEach [a, b] X.env = [(false, eval a X.env), (false, eval b X.env)] := by rfl) (hs2 : starEach [b] X.env = [(false, eval b X.env)] := by rfl) :
    PI X tg (.Call (.Name "range" p) [a, b] [] pos) (tI g Wx (dOne fRng2 m)) :=
  weakI (pi_range2 hg hm ha hs hs2) fun σ H R q => oneI_reads (R := RelWs g) q fun ρ h H x vx S r f => by
    unfold fRng2 at f
    cases e0 : as2 x with
    | none => simp only [e0] at f; exact f.elim
    | some ij =>
      simp only [e0] at f
      rw [as2_ok e0] at r
      cases e : smallI ij.1 && smallI ij.2 with
      | false => simp only [e] at f; exact f.elim
      | true =>
        simp only [e] at f
        obtain ⟨e1, e2⟩ := Bool.and_eq_true_iff.mp e
        obtain ⟨l1, l2⟩ := smallI_ok e1
        obtain ⟨l3, l4⟩ := smallI_ok e2
        exact ⟨ij.1, ij.2, r.as2, ⟨l1, l2, l3, l4⟩, f ρ H _ S.refl S ⟨_, ok_rng, trivial⟩⟩

/-! ### for -/
def dLoop (nx : Nx) (b : W → WS → Option WS) (body : DS) : Nat → Nat → DS
  | 0, _ => fun _ _ => .stuck
  | f + 1, i => fun ws h => match nx i h with
    | none => .stuck
    | some none => .nx ws h
    | some (some w) => (match b w ws with
      | none => .stuck
      | some ws' => (match body ws' h with
        | .nx ws2 h2 => dLoop nx b body f (i + 1) ws2 h2
        | .ct ws2 h2 => dLoop nx b body f (i + 1) ws2 h2
        | .bk ws2 h2 => .nx ws2 h2
        | r => r))
def LOOPS : Nat := 1000000000
def dFor (m : Dn Nx) (b : W → WS → Option WS) (body : DS) : DS := dOneS (fun nx ws h => dLoop nx b body LOOPS 0 ws h) m
variable {D : Ends}
theorem for_reads {us : List Nat} {t : TG} {b : W → WS → Option WS} (G : GS g us t b) {m : Dn Nx} {body : DS} {σ : L2.St} {H : Hp} (x : tS g Wx (dFor m b body) D σ H) : tFor (tI g Wx m) t (tS g Wx body) D σ H := by
  obtain ⟨ρ, ws, h, S, sl, fin⟩ := x
  refine ⟨ρ, ws, h, S, sl, ?_⟩
  unfold dFor dOneS at fin
  cases q : m ws h with
  | exc c fs h' =>
    rw [q] at fin
    exact fun ρ' H' cls d x s q => fin ρ' H' σ cls d x s (sl.ext x) q
  | stuck => rw [q] at fin; exact fin
  | ok nx h1 =>
    rw [q] at fin
    rintro ρ1 H1 J X1 S1 ⟨P, ok, p1⟩
    have fin1 : FinS g ρ1 h1 H1 D Wx (dLoop nx b body LOOPS 0 ws h1) := FinS.later X1 fin
    refine ⟨fun i f σ' H' => ∃ ρ' ws' h', Sim g ρ' h' H' ∧ Sl g ρ' h'.n H' ws' σ' ∧ P ρ' h'.n H' ∧ FinS g ρ' h' H' D Wx (dLoop nx b body f i ws' h'), ⟨LOOPS, ρ1, ws, h1, S1, sl.ext X1, p1, fin1⟩, ?_⟩
    rintro i f σ2 H2 ⟨ρ2, ws2, h2, S2, sl2, p2, fin2⟩
    cases f with
    | zero => exact fin2.elim
    | succ f =>
      unfold dLoop at fin2
      cases q : nx i h2 with
      | none => rw [q] at fin2; exact fin2.elim
      | some o =>
        cases o with
        | none =>
          rw [q] at fin2
          exact .inl ⟨ok.stop ρ2 h2 H2 i S2 p2 q, fin2.nx0 S2 sl2⟩
        | some w =>
          rw [q] at fin2
          obtain ⟨g1, g2⟩ := ok.go ρ2 h2 H2 i w S2 p2 q
          refine .inr ⟨g1, fun σ' H' => ∃ ρ' ws' h', Sim g ρ' h' H' ∧ Sl g ρ' h'.n H' ws' σ' ∧ P ρ' h'.n H' ∧ FinS g ρ' h' H' D Wx (dLoop nx b body f (i + 1) ws' h'), fun σ' H' z => ⟨f, Nat.lt_succ_self _, z⟩, fun v H' y => ?_⟩
          obtain ⟨X3, S3, r3⟩ := g2 v H' y
          have fin3 := FinS.later X3 fin2
          dsimp only at fin3
          cases e : b w ws2 with
          | none => rw [e] at fin3; exact fin3.elim
          | some ws' =>
            rw [e] at fin3
            refine G.go ρ2 h2 H' w v ws2 σ2 _ S3 r3 (sl2.ext X3) ws' e fun σ' sl' _ => ⟨ρ2, ws', h2, S3, sl', ?_⟩
            dsimp only at fin3
            cases e2 : body ws' h2 with
            | nx ws4 h4 =>
              rw [e2] at fin3
              exact fun ρ4 H4 σ4 X4 S4 sl4 => ⟨ρ4, ws4, h4, S4, sl4, ok.ext (X3.trans X4) p2, FinS.later X4 fin3⟩
            | ct ws4 h4 =>
              rw [e2] at fin3
              exact fun ρ4 H4 σ4 X4 S4 sl4 => ⟨ρ4, ws4, h4, S4, sl4, ok.ext (X3.trans X4) p2, FinS.later X4 fin3⟩
            | bk ws4 h4 =>
              rw [e2] at fin3
              exact fun ρ4 H4 σ4 X4 S4 sl4 => fin3 ρ4 H4 σ4 X4 S4 sl4
            | rt w4 h4 =>
              rw [e2] at fin3
              exact fun ρ4 H4 σ4 X4 S4 sl4 => fin3 ρ4 H4 σ4 X4 S4 sl4
            | exc ws4 c fs h4 =>
              rw [e2] at fin3
              exact fin3
            | stuck => rw [e2] at fin3; exact fin3.elim
theorem ms_for {us : List Nat} {iter : Expr} {body : List Stmt} {t : TG} {b : W → WS → Option WS} {m : Dn Nx} {mb : DS} (hp : PassesOwn (model X.prog X.w) X.A X.env X.xe) (hc : X.calm = true) (hi : PI X tg iter (tI g Wx m)) (hg : PG X tg t) (G : GS g us t b) (hb : PSs X body (tS g Wx mb))
    (hs : ∀ x, foldedSetIterable iter X.env x = pure x := by intro _; rfl) : PS X (.For tg iter body [] pos) (tS g Wx (dFor m b mb)) :=
  weakS (ps_for hp hc hi hg hb hs) fun D σ H q => for_reads G q

/-! ### while -/
def dWhileGo (c : Dn Bool) (body : DS) : Nat → DS
  | 0 => fun _ _ => .stuck
  | f + 1 => fun ws h => (c ws h).bndS ws fun k h1 => match k with
    | false => .nx ws h1
    | true => (match body ws h1 with
      | .nx ws2 h2 => dWhileGo c body f ws2 h2
      | .ct ws2 h2 => dWhileGo c body f ws2 h2
      | .bk ws2 h2 => .nx ws2 h2
      | r => r)
def dWhile (c : Dn Bool) (body : DS) : DS := fun ws h => dWhileGo c body LOOPS ws h
theorem while_reads {mc : Dn Bool} {body : DS} {σ : L2.St} {H : Hp} (x : tS g Wx (dWhile mc body) D σ H) : tWhile (tT g Wx mc) (tS g Wx body) D σ H := by
  refine ⟨fun f σ' H' => tS g Wx (dWhileGo mc body f) D σ' H', ⟨LOOPS, x⟩, ?_⟩
  rintro f σ2 H2 ⟨ρ2, ws2, h2, S2, sl2, fin2⟩
  cases f with
  | zero => exact fin2.elim
  | succ f =>
    refine ⟨ρ2, ws2, h2, S2, sl2, ?_⟩
    unfold dWhileGo at fin2
    cases q : mc ws2 h2 with
    | exc c fs h' =>
      rw [q] at fin2
      exact fun ρ' H' cls d x s q => fin2 ρ' H' σ2 cls d x s (sl2.ext x) q
    | stuck => rw [q] at fin2; exact fin2
    | ok k h3 =>
      rw [q] at fin2
      intro ρ3 H3 k' X3 S3 r3
      have e : k = k' := r3
      subst e
      have fin3 := FinS.later X3 fin2
      cases k with
      | false =>
        rw [if_neg Bool.false_ne_true]
        exact fin3.nx0 S3 (sl2.ext X3)
      | true =>
        rw [if_pos rfl]
        refine ⟨fun σ' H' => tS g Wx (dWhileGo mc body f) D σ' H', fun σ' H' z => ⟨f, Nat.lt_succ_self _, z⟩, ρ3, ws2, h3, S3, sl2.ext X3, ?_⟩
        dsimp only [Res.bndS] at fin3
        cases e2 : body ws2 h3 with
        | nx ws4 h4 =>
          rw [e2] at fin3
          exact fun ρ4 H4 σ4 X4 S4 sl4 => ⟨ρ4, ws4, h4, S4, sl4, FinS.later X4 fin3⟩
        | ct ws4 h4 =>
          rw [e2] at fin3
          exact fun ρ4 H4 σ4 X4 S4 sl4 => ⟨ρ4, ws4, h4, S4, sl4, FinS.later X4 fin3⟩
        | bk ws4 h4 =>
          rw [e2] at fin3
          exact fun ρ4 H4 σ4 X4 S4 sl4 => fin3 ρ4 H4 σ4 X4 S4 sl4
        | rt w4 h4 =>
          rw [e2] at fin3
          exact fun ρ4 H4 σ4 X4 S4 sl4 => fin3 ρ4 H4 σ4 X4 S4 sl4
        | exc ws4 c fs h4 =>
          rw [e2] at fin3
          exact fin3
        | stuck => rw [e2] at fin3; exact fin3.elim
theorem ms_while {c : Expr} {body : List Stmt} {mc : Dn Bool} {mb : DS} (hp : PassesOwn (model X.prog X.w) X.A X.env X.xe) (hc : PT X c (tT g Wx mc)) (hb : PSs X body (tS g Wx mb)) : PS X (.While c body [] pos) (tS g Wx (dWhile mc mb)) :=
  weakS (ps_while hp hc hb) fun D σ H q => while_reads q
end
end M

set_option Elab.async false
set_option linter.all false
set_option maxRecDepth 100000
set_option maxHeartbeats 4000000
namespace M
open PySem PySem.Spec PyProof.Rows L2
section
variable {g : Gd} {X : Cx} {Wx : WX} {e a b c : Expr} {pos : Pos} {tg : Expr}

/-! ### list comprehensions -/
def wipeW (ws : WS) : List Nat → WS
  | [] => ws
  | v :: vs => (wipeW ws vs).set v none
theorem Sl.unset {ρ n H} {ws : WS} {σ : L2.St} {i : Nat} (sl : Sl g ρ n H ws σ) : Sl g ρ n H (ws.set i none) (σ.set i none) := by
  refine ⟨by simp [sl.1], fun j x e => ?_⟩
  by_cases q : i = j
  · subst q
    by_cases l : i < ws.length
    · rw [List.getElem?_set_self l] at e; cases e
    · rw [List.getElem?_eq_none (by simpa using l)] at e; cases e
  · rw [List.getElem?_set_ne q] at e ⊢
    exact sl.2 j x e
theorem Sl.wipe {ρ n H} {ws : WS} {σ : L2.St} (sl : Sl g ρ n H ws σ) : ∀ vs, Sl g ρ n H (wipeW ws vs) (wipe σ vs)
  | [] => sl
  | v :: vs => (Sl.wipe sl vs).unset
theorem wipe_idem {σ : L2.St} {vs : List Nat} : L2.wipe (L2.wipe σ vs) vs = L2.wipe σ vs := by
  apply List.ext_getElem?
  intro j
  by_cases hj : j ∈ vs
  · by_cases l : j < σ.length
    · rw [wipe_none hj (by rw [wipe_length]; exact l), wipe_none hj l]
    · rw [List.getElem?_eq_none (by rw [wipe_length, wipe_length]; simpa using l), List.getElem?_eq_none (by rw [wipe_length]; simpa using l)]
  · rw [wipe_out' hj]
/-- one element a turn, the answers gathered from the right -/
def dLcGo (nx : Nx) (b : W → WS → Option WS) (t : Dn Bool) (e : Dn W) (ws : WS) : Nat → Nat → List W → MH → Res (List W)
  | 0, _, _ => fun _ => .stuck
  | f + 1, i, acc => fun h => match nx i h with
    | none => .stuck
    | some none => .ok acc h
    | some (some w) => (match b w ws with
      | none => .stuck
      | some ws' => (match t ws' h with
        | .ok true h1 => (match e ws' h1 with
          | .ok y h2 => dLcGo nx b t e ws f (i + 1) (y :: acc) h2
          | _ => .stuck)
        | .ok false h1 => dLcGo nx b t e ws f (i + 1) acc h1
        | _ => .stuck))
def fRevL (xs : List W) (h : MH) : Res W := fLst xs.reverse h
def dLc (m : Dn Nx) (vs : List Nat) (b : W → WS → Option WS) (t : Dn Bool) (e : Dn W) : Dn W := fun ws h => (m ws h).bnd fun nx h1 => (dLcGo nx b t e (wipeW ws vs) LOOPS 0 [] h1).bnd fRevL
/-- a piece of the list in the making: longer than the line never -/
theorem lcGo_len {nx : Nx} {b : W → WS → Option WS} {t : Dn Bool} {e : Dn W} {ws : WS} : ∀ (f i : Nat) (acc : List W) (h : MH) (ys : List W) (h' : MH), dLcGo nx b t e ws f i acc h = .ok ys h' → acc.length ≤ ys.length
  | 0, _, _, _, _, _, q => by unfold dLcGo at q; cases q
  | f + 1, i, acc, h, ys, h', q => by
    unfold dLcGo at q
    split at q
    · cases q
    · injection q with q1 q2; rw [q1]; exact Nat.le_refl _
    · split at q
      · cases q
      · split at q
        · split at q
          · have := lcGo_len f _ _ _ _ _ q
            simp only [List.length_cons] at this
            omega
          · cases q
        · exact lcGo_len f _ _ _ _ _ q
        · cases q
/-- where a comprehension's turns stand -/
structure LcAt (g : Gd) (P : (Nat → Addr) → Nat → Hp → Prop) (ws : WS) (σ : L2.St) (D : Addr) (ρ0 : Nat → Addr) (n0 : Nat) (H0 : Hp) (acc : List W) (ρ : Nat → Addr) (h : MH) (H : Hp) : Prop where
  X : Ext ρ0 n0 H0 ρ h.n H
  S : Sim g ρ h H
  sl : Sl g ρ h.n H ws σ
  p : P ρ h.n H
  d : ∃ vs, H D = some (.lst vs) ∧ RelWs g ρ h.n H acc.reverse vs
  nr : ∀ i, i < h.n → ρ i ≠ D
theorem lc_reads {us vs : List Nat} {tgt : TG} {bd : W → WS → Option WS} (G : GS g us tgt bd) (hu : ∀ i ∈ us, i ∈ vs) {m : Dn Nx} {mt : Dn Bool} {me : Dn W} {σ : L2.St} {H : Hp} {Q : VK} (x : tE g Wx (dLc m vs bd mt me) σ H Q) :
    tLc (tI g Wx m) tgt (tT g W0 mt) (tE g W0 me) vs σ H Q := by
  obtain ⟨ρ, ws, h, S, sl, fin⟩ := x
  refine ⟨ρ, ws, h, S, sl, (Fin.bnd (R := fun ρ' n' H' (nx : Nx) (J : It) => ∃ P, ItOk g J P nx ∧ P ρ' n' H') fin).mono fun J H1 ⟨ρ1, h1, nx, X1, S1, ⟨P, ok, p1⟩, f1⟩ => ?_⟩
  intro D hD
  have slw := (sl.ext X1).wipe vs
  -- the end: from a list of answers to Q
  have fin2 : ∀ acc h2, dLcGo nx bd mt me (wipeW ws vs) LOOPS 0 [] h1 = .ok acc h2 → ∀ ρ2 H2, LcAt g P (wipeW ws vs) (wipe σ vs) D ρ1 h1.n H1 acc ρ2 h2 H2 → Q (.ref D) H2 := by
    intro acc h2 q ρ2 H2 A
    rw [q] at f1
    obtain ⟨us', hd, r⟩ := A.d
    have f2 : Fin g (RelW g) ρ1 h1 H1 Q (fun c d H' => Wx c d σ H') (fLst acc.reverse h2) := f1
    unfold fLst at f2
    cases e : lenOk acc.reverse with
    | false => rw [e] at f2; exact f2.elim
    | true =>
      rw [e] at f2
      refine f2 (exρ ρ2 h2.n D) H2 (.ref D) (Ext.land A.X hD) (Sim.land A.S hd r A.nr) ?_
      simp only [RelW]
      exact ⟨Nat.lt_succ_self _, by unfold exρ; rw [if_pos rfl]⟩
  refine ⟨fun i f H' => ∃ acc ρ' h', LcAt g P (wipeW ws vs) (wipe σ vs) D ρ1 h1.n H1 acc ρ' h' H' ∧ dLcGo nx bd mt me (wipeW ws vs) LOOPS 0 [] h1 = dLcGo nx bd mt me (wipeW ws vs) f i acc h', ⟨LOOPS, [], ρ1, h1, ?_, rfl⟩, ?_⟩
  · have nr : ∀ i, i < h1.n → ρ1 i ≠ D := fun i hi z => by have := S1.ne hi; rw [z, hD] at this; exact this rfl
    exact ⟨Ext.out S1 hD, Sim.out S1 hD, slw.ext (Ext.out S1 hD), ok.ext (Ext.out S1 hD) p1, ⟨[], upd_same, RelWs.nil⟩, nr⟩
  rintro i f H2 ⟨acc, ρ2, h2, A, q⟩
  obtain ⟨dvs, hd, rd⟩ := A.d
  -- the whole answer is not stuck
  have alive : ∃ ys h3, dLcGo nx bd mt me (wipeW ws vs) f i acc h2 = .ok ys h3 ∧ lenOk ys.reverse = true := by
    rw [← q]
    cases z : dLcGo nx bd mt me (wipeW ws vs) LOOPS 0 [] h1 with
    | ok ys h3 =>
      refine ⟨ys, h3, rfl, ?_⟩
      rw [z] at f1
      have f2 : Fin g (RelW g) ρ1 h1 H1 Q (fun c d H' => Wx c d σ H') (fLst ys.reverse h3) := f1
      unfold fLst at f2
      cases e : lenOk ys.reverse with
      | false => rw [e] at f2; exact f2.elim
      | true => rfl
    | exc c fs h3 =>
      -- dLcGo tells no exception
      have noX : ∀ (f i : Nat) (acc : List W) (h : MH) c fs h', dLcGo nx bd mt me (wipeW ws vs) f i acc h ≠ .exc c fs h' := by
        intro f
        induction f with
        | zero => intro i acc h c fs h' z; unfold dLcGo at z; cases z
        | succ f ih =>
          intro i acc h c fs h' z
          unfold dLcGo at z
          split at z
          · cases z
          · cases z
          · split at z
            · cases z
            · split at z
              · split at z
                · exact ih _ _ _ _ _ _ z
                · cases z
              · exact ih _ _ _ _ _ _ z
              · cases z
      exact absurd z (noX _ _ _ _ _ _ _)
    | stuck => rw [z] at f1; exact f1.elim
  obtain ⟨ys, h3, ea, el⟩ := alive
  cases f with
  | zero => unfold dLcGo at ea; cases ea
  | succ f =>
    cases en : nx i h2 with
    | none => unfold dLcGo at ea; rw [en] at ea; cases ea
    | some o =>
      cases o with
      | none =>
        refine .inl ⟨ok.stop ρ2 h2 H2 i A.S A.p en, ?_⟩
        have e2 : dLcGo nx bd mt me (wipeW ws vs) (f + 1) i acc h2 = .ok acc h2 := by
          conv => lhs; unfold dLcGo
          simp only [en]
        exact fin2 acc h2 (q.trans e2) ρ2 H2 A
      | some w =>
        obtain ⟨g1, g2⟩ := ok.go ρ2 h2 H2 i w A.S A.p en
        refine .inr ⟨g1, fun H' => ∃ acc ρ' h', LcAt g P (wipeW ws vs) (wipe σ vs) D ρ1 h1.n H1 acc ρ' h' H' ∧ dLcGo nx bd mt me (wipeW ws vs) LOOPS 0 [] h1 = dLcGo nx bd mt me (wipeW ws vs) f (i + 1) acc h', fun H' z => ⟨f, Nat.lt_succ_self _, z⟩, fun v H3 y => ?_⟩
        obtain ⟨X3, S3, r3⟩ := g2 v H3 y
        have hd3 : H3 D = some (.lst dvs) := X3.keep D _ hd A.nr (by intro _ z; cases z)
        cases eb : bd w (wipeW ws vs) with
        | none => unfold dLcGo at ea; rw [en] at ea; simp only [eb] at ea; cases ea
        | some ws' =>
          refine G.go ρ2 h2 H3 w v (wipeW ws vs) (wipe σ vs) _ S3 r3 (A.sl.ext X3) ws' eb fun σ' sl' w' => ⟨by rw [w' vs hu]; exact wipe_idem, ?_⟩
          refine ⟨ρ2, ws', h2, S3, sl', ?_⟩
          cases et : mt ws' h2 with
          | exc c fs h' => unfold dLcGo at ea; rw [en] at ea; simp only [eb, et] at ea; cases ea
          | stuck => unfold dLcGo at ea; rw [en] at ea; simp only [eb, et] at ea; cases ea
          | ok k h4 =>
            intro ρ4 H4 k' X4 S4 r4
            have ek : k = k' := r4
            subst ek
            have X34 := X3.trans X4
            have nr4 : ∀ i, i < h4.n → ρ4 i ≠ D := fun j hj z => by
              by_cases hn : j < h2.n
              · rw [X34.eq j hn] at z; exact A.nr j hn z
              · have := X34.new j (Nat.not_lt.mp hn) hj
                rw [z, hd] at this; cases this
            have hd4 : H4 D = some (.lst dvs) := X34.keep D _ hd A.nr (by intro _ z; cases z)
            have A4 : LcAt g P (wipeW ws vs) (wipe σ vs) D ρ1 h1.n H1 acc ρ4 h4 H4 := ⟨A.X.trans X34, S4, A.sl.ext X34, ok.ext X34 A.p, ⟨dvs, hd4, rd.ext X34⟩, nr4⟩
            cases k with
            | false =>
              rw [if_neg Bool.false_ne_true]
              have e2 : dLcGo nx bd mt me (wipeW ws vs) (f + 1) i acc h2 = dLcGo nx bd mt me (wipeW ws vs) f (i + 1) acc h4 := by
                conv => lhs; unfold dLcGo
                simp only [en, eb, et]
              exact ⟨acc, ρ4, h4, A4, q.trans e2⟩
            | true =>
              rw [if_pos rfl]
              refine ⟨ρ4, ws', h4, S4, sl'.ext X4, ?_⟩
              cases ee : me ws' h4 with
              | exc c fs h' => unfold dLcGo at ea; rw [en] at ea; simp only [eb, et, ee] at ea; cases ea
              | stuck => unfold dLcGo at ea; rw [en] at ea; simp only [eb, et, ee] at ea; cases ea
              | ok yy h5 =>
                intro ρ5 H5 u X5 S5 r5
                have X45 := X34.trans X5
                have e2 : dLcGo nx bd mt me (wipeW ws vs) (f + 1) i acc h2 = dLcGo nx bd mt me (wipeW ws vs) f (i + 1) (yy :: acc) h5 := by
                  conv => lhs; unfold dLcGo
                  simp only [en, eb, et, ee]
                have nr5 : ∀ i, i < h5.n → ρ5 i ≠ D := fun j hj z => by
                  by_cases hn : j < h4.n
                  · rw [X5.eq j hn] at z; exact nr4 j hn z
                  · have := X5.new j (Nat.not_lt.mp hn) hj
                    rw [z, hd4] at this; cases this
                have hd5 : H5 D = some (.lst dvs) := X5.keep D _ hd4 nr4 (by intro _ z; cases z)
                have rd5 : RelWs g ρ5 h5.n H5 acc.reverse dvs := rd.ext X45
                have hlen : dvs.length < sizeLine := by
                  rw [rd5.len, List.length_reverse, sizeLine_eq]
                  have l1 := lcGo_len _ _ _ _ _ _ (e2.symm.trans ea)
                  have l2 : ys.reverse.length ≤ 16777216 := Nat.le_of_ble_eq_true el
                  rw [List.length_reverse] at l2
                  simp only [List.length_cons] at l1
                  omega
                refine ⟨dvs, hd5, hlen, yy :: acc, ρ5, h5, ⟨Ext.out2 (A.X.trans X45) hD nr5, Sim.out2 S5 hd5 True.intro nr5, ?_, ok.out2 hd5 True.intro nr5 (ok.ext X45 A.p), ⟨dvs ++ [u], upd_same, ?_⟩, nr5⟩, q.trans e2⟩
                · have sl5 := A.sl.ext X45
                  exact ⟨sl5.1, fun j x z => let ⟨v, a, b⟩ := sl5.2 j x z; ⟨v, a, b.out2 hd5 True.intro⟩⟩
                · rw [List.reverse_cons]
                  exact (rd5.append (.cons r5 RelWs.nil)).out2 hd5 True.intro
end
end M

set_option Elab.async false
set_option linter.all false
set_option maxRecDepth 100000
set_option maxHeartbeats 4000000
namespace M
open PySem PySem.Spec PyProof.Rows L2
section
variable {g : Gd} {X : Cx} {Wx : WX} {e a b c : Expr} {pos : Pos} {tg : Expr}

/-! ### comprehensions as expressions -/
theorem mts_nil : PTs X [] (tT g Wx (dK true)) := ⟨fun pins s σ H Q I q => pts_nil.run pins s σ H Q I (k_reads q)⟩
theorem mts_one {m : Dn Bool} (h : PT X c (tT g Wx m)) : PTs X [c] (tT g Wx m) := pts_one h
theorem m_lc {us : List Nat} {elt iter : Expr} {ifs : List Expr} {scope : Scope} {own : List (Str × Nat)} {tgt : TG} {bd : W → WS → Option WS} {m : Dn Nx} {mt : Dn Bool} {me : Dn W} (hc : X.calm = true) (hN : X.N.Nodup) (hi : PI X tg iter (tI g Wx m)) (ok : BlkOk X.N X.env.scope scope own)
    (hg : ∀ (s : Shared) (H : Hp) (C : Addr) (cl : List (Str × Addr)) (fp : List Addr), PG (X.blk s H scope (compEnvC scope cl C X.env) fp) tg tgt) (G : GS g us tgt bd) (hu : ∀ i ∈ us, i ∈ own.map (·.2))
    (ht : ∀ (s : Shared) (H : Hp) (C : Addr) (cl : List (Str × Addr)) (fp : List Addr), PTs (X.blk s H scope (compEnvC scope cl C X.env) fp) ifs (tT g W0 mt))
    (he : ∀ (s : Shared) (H : Hp) (C : Addr) (cl : List (Str × Addr)) (fp : List Addr), PE (X.blk s H scope (compEnvC scope cl C X.env) fp) elt (tE g W0 me)) (hs : ∀ x, foldedSetIterable iter X.env x = pure x := by intro _; rfl) :
    PE X (.ListComp elt [⟨tg, iter, ifs, 0⟩] scope pos) (tE g Wx (dLc m (own.map (·.2)) bd mt me)) :=
  weak (pe_lc hc hN hi ok hg ht he hs) fun σ H Q q => lc_reads G hu q
theorem ms_setLc {us : List Nat} {i : Nat} {y : Str} {py : Pos} {elt iter : Expr} {ifs : List Expr} {scope : Scope} {own : List (Str × Nat)} {tgt : TG} {bd : W → WS → Option WS} {m : Dn Nx} {mt : Dn Bool} {me : Dn W} {spos : Pos} (hc : X.calm = true) (hN : X.N.Nodup) (hy : X.N[i]? = some y) (hyl : X.env.scope.names.lookup y = some .local)
    (hsw : swapsWith (.ListComp elt [⟨tg, iter, ifs, 0⟩] scope pos) (some (.Name y py)) spos.line X.env = pure true) (hi : PI X tg iter (tI g Wx m)) (ok : BlkOk X.N X.env.scope scope own)
    (hg : ∀ (s : Shared) (H : Hp) (C : Addr) (cl : List (Str × Addr)) (fp : List Addr), PG (X.blk s H scope (compEnvC scope cl C X.env) fp) tg tgt) (G : GS g us tgt bd) (hu : ∀ i ∈ us, i ∈ own.map (·.2))
    (ht : ∀ (s : Shared) (H : Hp) (C : Addr) (cl : List (Str × Addr)) (fp : List Addr), PTs (X.blk s H scope (compEnvC scope cl C X.env) fp) ifs (tT g W0 mt))
    (he : ∀ (s : Shared) (H : Hp) (C : Addr) (cl : List (Str × Addr)) (fp : List Addr), PE (X.blk s H scope (compEnvC scope cl C X.env) fp) elt (tE g W0 me)) (hs : ∀ x, foldedSetIterable iter X.env x = pure x := by intro _; rfl) :
    PS X (.Assign [.Name y py] (.ListComp elt [⟨tg, iter, ifs, 0⟩] scope pos) spos) (tS g Wx (dAsg (dLc m (own.map (·.2)) bd mt me) (bName i))) :=
  weakS (ps_setLc hc hN hy hyl hsw hi ok hg ht he hs) fun D σ H q => by
    obtain ⟨ρ, ws, h, S, sl, fin⟩ := asg_reads (gs_name i) q
    exact lc_reads G hu ⟨ρ, ws, h, S, sl, fin⟩

/-! ### subscripts -/
theorem atI_of {ρ n H} {xs : List W} {vs : List V} {i : Int} {w : W} (r : RelWs g ρ n H xs vs) (e : atI xs i = some w) : ∃ v, atI vs i = some v ∧ RelW g ρ n H w v := by
  unfold atI at e ⊢
  obtain ⟨j, e1, e2⟩ := Option.bind_eq_some_iff.mp e
  obtain ⟨v, e3, e4⟩ := r.get e2
  exact ⟨v, by rw [r.len, e1]; exact e3, e4⟩
/-- the items of a sequence -/
def items (w : W) (h : MH) : Option (List W) := match w with
  | .tup xs => some xs
  | .fro xs => some xs
  | .ref k => (match h.get k with | some (.lst xs) => some xs | _ => none)
  | _ => none
/-- a list's items -/
def litems (w : W) (h : MH) : Option (List W) := match w with
  | .fro xs => some xs
  | .ref k => (match h.get k with | some (.lst xs) => some xs | _ => none)
  | _ => none
theorem litems_ok {ρ h H} {w : W} {v : V} {xs : List W} (S : Sim g ρ h H) (r : RelW g ρ h.n H w v) (e : litems w h = some xs) : ∃ a vs, v = .ref a ∧ SqL g.K H a vs ∧ RelWs g ρ h.n H xs vs := by
  cases w with
  | fro ys =>
    simp only [litems] at e
    injection e with e
    subst e
    simp only [RelW] at r
    obtain ⟨a, vs, rfl, e2, e3⟩ := r
    exact ⟨a, vs, rfl, e2.sql, e3⟩
  | ref k =>
    simp only [litems] at e
    split at e
    · rename_i ys q
      injection e with e
      subst e
      simp only [RelW] at r
      obtain ⟨_, rfl⟩ := r
      obtain ⟨_, vs, e3, rr⟩ := S.atl q
      exact ⟨_, vs, rfl, SqL.of e3, rr⟩
    · cases e
  | _ => cases e
theorem items_ok {ρ h H} {w : W} {v : V} {xs : List W} (S : Sim g ρ h H) (r : RelW g ρ h.n H w v) (e : items w h = some xs) : ∃ a vs, v = .ref a ∧ (SqL g.K H a vs ∨ SqT g.K H a vs) ∧ RelWs g ρ h.n H xs vs := by
  cases w with
  | tup ys =>
    simp only [items] at e
    injection e with e
    subst e
    simp only [RelW] at r
    obtain ⟨a, vs, rfl, e2, e3⟩ := r
    exact ⟨a, vs, rfl, .inr (SqT.of e2), e3⟩
  | fro ys =>
    obtain ⟨a, vs, e1, e2, e3⟩ := litems_ok (w := .fro ys) S r e
    exact ⟨a, vs, e1, .inl e2, e3⟩
  | ref k =>
    obtain ⟨a, vs, e1, e2, e3⟩ := litems_ok (w := .ref k) S r e
    exact ⟨a, vs, e1, .inl e2, e3⟩
  | _ => cases e
/-- a tracked list's items -/
def citems (w : W) (h : MH) : Option (List W) := match w with
  | .ref k => (match h.get k with | some (.lst xs) => some xs | _ => none)
  | _ => none
theorem citems_ok {ρ h H} {w : W} {v : V} {xs : List W} (S : Sim g ρ h H) (r : RelW g ρ h.n H w v) (e : citems w h = some xs) : ∃ k vs, w = .ref k ∧ h.get k = some (.lst xs) ∧ v = .ref (ρ k) ∧ H (ρ k) = some (.lst vs) ∧ RelWs g ρ h.n H xs vs := by
  cases w with
  | ref k =>
    simp only [citems] at e
    split at e
    · rename_i ys q
      injection e with e
      subst e
      simp only [RelW] at r
      obtain ⟨_, rfl⟩ := r
      obtain ⟨_, vs, e3, rr⟩ := S.atl q
      exact ⟨k, vs, rfl, q, rfl, e3, rr⟩
    · cases e
  | _ => cases e
def fIx (x y : W) (h : MH) : Res W := match y with
  | .int i => (match x with
    | .str z => (match Nat.ble z.length 16777216, atI z.cps.toList i with
      | true, some c => .ok (.str ⟨#[c]⟩) h
      | _, _ => .stuck)
    | x => (match items x h with
      | some xs => (match atI xs i with | some w => .ok w h | none => .stuck)
      | none => .stuck))
  | _ => .stuck
theorem oIx : OpS g (rIx g.K) fIx := by
  intro ρ h H x y vx vy Q E S r1 r2 f
  cases y <;> first | exact f.elim | skip
  rename_i i
  simp only [RelW] at r2
  subst r2
  have go : (match items x h with
      | some xs => (match atI xs i with | some w => (Res.ok w h : Res W) | none => .stuck)
      | none => .stuck) = fIx x (.int i) h → rIx g.K vx (.int i) H Q := by
    intro q
    rw [← q] at f
    split at f
    · rename_i xs e
      split at f
      · rename_i w e2
        obtain ⟨a, vs, rfl, hs, rr⟩ := items_ok S r1 e
        obtain ⟨v, e3, e4⟩ := atI_of rr e2
        rcases hs with hs | hs
        · exact .inl ⟨a, vs, i, v, rfl, rfl, hs, e3, f.here S e4⟩
        · exact .inr (.inl ⟨a, vs, i, v, rfl, rfl, hs, e3, f.here S e4⟩)
      · exact f.elim
    · exact f.elim
  cases x with
  | str z =>
    simp only [fIx] at f
    split at f
    · rename_i c e1 e2
      simp only [RelW] at r1
      subst r1
      exact .inr (.inr ⟨z, i, c, rfl, rfl, by rw [sizeLine_eq]; exact Nat.le_of_ble_eq_true e1, e2, f.here S (by simp only [RelW])⟩)
    · exact f.elim
  | _ => exact go rfl
theorem m_ix (hK : X.K = g.K) {ma mb : Dn W} (ha : PE X a (tE g Wx ma)) (hb : PE X b (tE g Wx mb)) (hs : PlainIx b := by exact fun _ _ => rfl) : PE X (.Subscript a b pos) (tE g Wx (dOp fIx ma mb)) :=
  weak (pe_ix (by rw [← hK]; exact ix_seq) ha hb hs) fun _ _ _ q => op_reads oIx q

/-! ### built-in functions -/
def fLen (xs : List W) (h : MH) : Res W := match xs with
  | [.str z] => (match Nat.ble z.length 16777216 with | true => .ok (.int z.length) h | false => .stuck)
  | [w] => (match items w h with | some ys => .ok (.int ys.length) h | none => .stuck)
  | _ => .stuck
theorem one_of {ρ n H} {x : W} {vs : List V} (r : RelWs g ρ n H [x] vs) : ∃ v, vs = [v] ∧ RelW g ρ n H x v := by
  obtain ⟨v1, _, rfl, r1, r⟩ := r.inv_cons
  rw [r.inv_nil]
  exact ⟨v1, rfl, r1⟩
theorem two_of {ρ n H} {x y : W} {vs : List V} (r : RelWs g ρ n H [x, y] vs) : ∃ v u, vs = [v, u] ∧ RelW g ρ n H x v ∧ RelW g ρ n H y u := by
  obtain ⟨v1, _, rfl, r1, r⟩ := r.inv_cons
  obtain ⟨v2, _, rfl, r2, r⟩ := r.inv_cons
  rw [r.inv_nil]
  exact ⟨v1, v2, rfl, r1, r2⟩
theorem oLen : CallS g (fun xs H Q => ∃ x n, xs = [x] ∧ LenV g.K x H n ∧ Q (.int n) H) fLen := by
  intro ρ h H xs vs Q E S r f
  unfold fLen at f
  split at f
  · rename_i z
    split at f
    · rename_i e
      obtain ⟨v, rfl, r1⟩ := one_of r
      simp only [RelW] at r1
      subst r1
      exact ⟨_, z.length, rfl, ⟨by rw [sizeLine_eq]; exact Nat.le_of_ble_eq_true e, rfl⟩, f.here S (by simp only [RelW])⟩
    · exact f.elim
  · rename_i w _
    split at f
    · rename_i ys e
      obtain ⟨v, rfl, r1⟩ := one_of r
      obtain ⟨a, us, rfl, hs, rr⟩ := items_ok S r1 e
      refine ⟨_, ys.length, rfl, ?_, f.here S (by simp only [RelW])⟩
      rcases hs with hs | hs
      · exact .inl ⟨us, hs, rr.len.symm⟩
      · exact .inr ⟨us, hs, rr.len.symm⟩
    · exact f.elim
  · exact f.elim
def f1I (k : Int → MH → Res W) (xs : List W) (h : MH) : Res W := match as1 xs with
  | some i => k i h
  | none => .stuck
def f2Is (k : Int → Int → MH → Res W) (xs : List W) (h : MH) : Res W := match as2 xs with
  | some (i, j) => k i j h
  | none => .stuck
def fAbs := f1I fun i h => .ok (.int (if i < 0 then -i else i)) h
theorem oAbs : CallS g (fun xs H Q => ∃ i, xs = [.int i] ∧ Q (.int (if i < 0 then -i else i)) H) fAbs := by
  intro ρ h H xs vs Q E S r f
  unfold fAbs f1I at f
  cases e : as1 xs with
  | none => rw [e] at f; exact f.elim
  | some i =>
    rw [e] at f
    rw [as1_ok e] at r
    exact ⟨i, r.as1, f.here S (by simp only [RelW])⟩
def fMax2 := f2Is fun i j h => .ok (.int (if j > i then j else i)) h
def fMin2 := f2Is fun i j h => .ok (.int (if j < i then j else i)) h
theorem oMax2 : CallS g (fun xs H Q => ∃ i j, xs = [.int i, .int j] ∧ Q (.int (if j > i then j else i)) H) fMax2 := by
  intro ρ h H xs vs Q E S r f
  unfold fMax2 f2Is at f
  cases e : as2 xs with
  | none => rw [e] at f; exact f.elim
  | some ij =>
    rw [e] at f
    rw [as2_ok e] at r
    exact ⟨ij.1, ij.2, r.as2, f.here S (by simp only [RelW])⟩
theorem oMin2 : CallS g (fun xs H Q => ∃ i j, xs = [.int i, .int j] ∧ Q (.int (if j < i then j else i)) H) fMin2 := by
  intro ρ h H xs vs Q E S r f
  unfold fMin2 f2Is at f
  cases e : as2 xs with
  | none => rw [e] at f; exact f.elim
  | some ij =>
    rw [e] at f
    rw [as2_ok e] at r
    exact ⟨ij.1, ij.2, r.as2, f.here S (by simp only [RelW])⟩
def fGcd := f2Is fun i j h => .ok (.int ((Nat.gcd i.natAbs j.natAbs : Nat) : Int)) h
theorem oGcd : CallS g rGcd fGcd := by
  intro ρ h H xs vs Q E S r f
  unfold fGcd f2Is at f
  cases e : as2 xs with
  | none => rw [e] at f; exact f.elim
  | some ij =>
    rw [e] at f
    rw [as2_ok e] at r
    exact ⟨ij.1, ij.2, r.as2, f.here S (by simp only [RelW])⟩
def fInt (xs : List W) (h : MH) : Res W := match xs with
  | [.int i] => .ok (.int i) h
  | [.bl k] => .ok (.int (if k then 1 else 0)) h
  | _ => .stuck
theorem oInt : CallS g (fun xs H Q => (∃ i, xs = [.int i] ∧ Q (.int i) H) ∨ ∃ k, xs = [.bl k] ∧ Q (.int (if k then 1 else 0)) H) fInt := by
  intro ρ h H xs vs Q E S r f
  unfold fInt at f
  split at f
  · obtain ⟨v, rfl, r1⟩ := one_of r
    simp only [RelW] at r1
    subst r1
    exact .inl ⟨_, rfl, f.here S (by simp only [RelW])⟩
  · obtain ⟨v, rfl, r1⟩ := one_of r
    simp only [RelW] at r1
    subst r1
    exact .inr ⟨_, rfl, f.here S (by simp only [RelW])⟩
  · exact f.elim
def fTuple (xs : List W) (h : MH) : Res W := match xs with
  | [w] => (match items w h with | some ys => .ok (.tup ys) h | none => .stuck)
  | _ => .stuck
theorem oTuple : CallS g (fun xs H Q => ∃ p ys, xs = [.ref p] ∧ ((SqL g.K H p ys ∧ ∀ l, H l = none → Q (.ref l) (upd H l (.tup ys))) ∨ (SqT g.K H p ys ∧ Q (.ref p) H))) fTuple := by
  intro ρ h H xs vs Q E S r f
  unfold fTuple at f
  split at f
  · rename_i w
    split at f
    · rename_i ys e
      obtain ⟨v, rfl, r1⟩ := one_of r
      cases w with
      | tup zs =>
        simp only [items] at e
        injection e with e
        subst e
        have r0 := r1
        simp only [RelW] at r1
        obtain ⟨a, us, rfl, e2, e3⟩ := r1
        exact ⟨a, us, rfl, .inr ⟨SqT.of e2, f.here S r0⟩⟩
      | fro zs =>
        obtain ⟨a, us, rfl, hs, rr⟩ := litems_ok (w := .fro zs) S r1 e
        exact ⟨a, us, rfl, .inl ⟨hs, fun l hl => f.tup S rr hl⟩⟩
      | ref k =>
        obtain ⟨a, us, rfl, hs, rr⟩ := litems_ok (w := .ref k) S r1 e
        exact ⟨a, us, rfl, .inl ⟨hs, fun l hl => f.tup S rr hl⟩⟩
      | _ => cases e
    · exact f.elim
  · exact f.elim
def fList (xs : List W) (h : MH) : Res W := match xs with
  | [w] => (match items w h with | some ys => .ok (.ref h.n) (h.push (.lst ys)) | none => .stuck)
  | _ => .stuck
theorem oList : CallS g (fun xs H Q => ∃ p ys, xs = [.ref p] ∧ (SqL g.K H p ys ∨ SqT g.K H p ys) ∧ ∀ l, H l = none → Q (.ref l) (upd H l (.lst ys))) fList := by
  intro ρ h H xs vs Q E S r f
  unfold fList at f
  split at f
  · rename_i w
    split at f
    · rename_i ys e
      obtain ⟨v, rfl, r1⟩ := one_of r
      obtain ⟨a, us, rfl, hs, rr⟩ := items_ok S r1 e
      exact ⟨a, us, rfl, hs, fun l hl => f.push S rr hl⟩
    · exact f.elim
  · exact f.elim
/-- all of them ints, bools -/
def allI : List W → Option (List Int)
  | [] => some []
  | .int i :: r => (allI r).map (i :: ·)
  | _ :: _ => none
def allB : List W → Option (List Bool)
  | [] => some []
  | .bl i :: r => (allB r).map (i :: ·)
  | _ :: _ => none
theorem allI_ok {ρ n H} : ∀ {xs : List W} {is : List Int} {vs : List V}, allI xs = some is → RelWs g ρ n H xs vs → vs = is.map V.int
  | [], is, vs, e, r => by
    unfold allI at e
    injection e with e
    rw [← e, r.inv_nil]; rfl
  | x :: xs, is, vs, e, r => by
    cases x <;> first | (unfold allI at e; cases e; done) | skip
    rename_i i
    unfold allI at e
    obtain ⟨js, e1, e2⟩ := Option.map_eq_some_iff.mp e
    obtain ⟨v, u, rfl, r1, r2⟩ := r.inv_cons
    simp only [RelW] at r1
    rw [← e2, r1, allI_ok e1 r2]
    rfl
theorem allB_ok {ρ n H} : ∀ {xs : List W} {is : List Bool} {vs : List V}, allB xs = some is → RelWs g ρ n H xs vs → vs = is.map V.bl
  | [], is, vs, e, r => by
    unfold allB at e
    injection e with e
    rw [← e, r.inv_nil]; rfl
  | x :: xs, is, vs, e, r => by
    cases x <;> first | (unfold allB at e; cases e; done) | skip
    rename_i i
    unfold allB at e
    obtain ⟨js, e1, e2⟩ := Option.map_eq_some_iff.mp e
    obtain ⟨v, u, rfl, r1, r2⟩ := r.inv_cons
    simp only [RelW] at r1
    rw [← e2, r1, allB_ok e1 r2]
    rfl
def lInts (xs : List W) (h : MH) : Option (List Int) := match xs with
  | [w] => (litems w h).bind allI
  | _ => none
def lBools (xs : List W) (h : MH) : Option (List Bool) := match xs with
  | [w] => (litems w h).bind allB
  | _ => none
theorem lInts_ok {ρ h H} {xs : List W} {vs : List V} {is : List Int} (S : Sim g ρ h H) (r : RelWs g ρ h.n H xs vs) (e : lInts xs h = some is) : ∃ a, vs = [.ref a] ∧ SqL g.K H a (is.map V.int) := by
  unfold lInts at e
  split at e
  · obtain ⟨ys, e1, e2⟩ := Option.bind_eq_some_iff.mp e
    obtain ⟨v, rfl, r1⟩ := one_of r
    obtain ⟨a, us, rfl, hs, rr⟩ := litems_ok S r1 e1
    rw [allI_ok e2 rr] at hs
    exact ⟨a, rfl, hs⟩
  · cases e
theorem lBools_ok {ρ h H} {xs : List W} {vs : List V} {is : List Bool} (S : Sim g ρ h H) (r : RelWs g ρ h.n H xs vs) (e : lBools xs h = some is) : ∃ a, vs = [.ref a] ∧ SqL g.K H a (is.map V.bl) := by
  unfold lBools at e
  split at e
  · obtain ⟨ys, e1, e2⟩ := Option.bind_eq_some_iff.mp e
    obtain ⟨v, rfl, r1⟩ := one_of r
    obtain ⟨a, us, rfl, hs, rr⟩ := litems_ok S r1 e1
    rw [allB_ok e2 rr] at hs
    exact ⟨a, rfl, hs⟩
  · cases e
def fSum (xs : List W) (h : MH) : Res W := match lInts xs h with | some is => .ok (.int is.sum) h | none => .stuck
theorem oSum : CallS g (rSum g.K) fSum := by
  intro ρ h H xs vs Q E S r f
  unfold fSum at f
  split at f
  · rename_i is e
    obtain ⟨a, rfl, hs⟩ := lInts_ok S r e
    exact ⟨a, is, rfl, hs, f.here S (by simp only [RelW])⟩
  · exact f.elim
def fAll (xs : List W) (h : MH) : Res W := match lBools xs h with | some is => .ok (.bl (is.all id)) h | none => .stuck
def fAny (xs : List W) (h : MH) : Res W := match lBools xs h with | some is => .ok (.bl (is.any id)) h | none => .stuck
theorem oAll : CallS g (rAll g.K) fAll := by
  intro ρ h H xs vs Q E S r f
  unfold fAll at f
  split at f
  · rename_i is e
    obtain ⟨a, rfl, hs⟩ := lBools_ok S r e
    exact ⟨a, is, rfl, hs, f.here S (by simp only [RelW])⟩
  · exact f.elim
theorem oAny : CallS g (rAny g.K) fAny := by
  intro ρ h H xs vs Q E S r f
  unfold fAny at f
  split at f
  · rename_i is e
    obtain ⟨a, rfl, hs⟩ := lBools_ok S r e
    exact ⟨a, is, rfl, hs, f.here S (by simp only [RelW])⟩
  · exact f.elim
def maxOf : Int → List Int → Int
  | m, [] => m
  | m, i :: r => maxOf (if m < i then i else m) r
def minOf : Int → List Int → Int
  | m, [] => m
  | m, i :: r => minOf (if i < m then i else m) r
theorem maxOf_ok : ∀ (l : List Int) (m k : Int), (k ∈ (m :: l) ∧ ∀ y, y ∈ (m :: l) → y ≤ k) → k = maxOf m l
  | [], m, k, h => by
    have h1 : k ∈ [m] := h.1
    simpa [maxOf] using h1
  | i :: r, m, k, ⟨h1, h2⟩ => by
    unfold maxOf
    refine maxOf_ok r _ k ⟨?_, fun y hy => ?_⟩
    · have a1 := h2 m (by simp)
      have a2 := h2 i (by simp)
      rcases List.mem_cons.mp h1 with z | z
      · by_cases q : m < i
        · rw [if_pos q]; have : k = i := by omega
          simp [this]
        · rw [if_neg q]; simp [z]
      · rcases List.mem_cons.mp z with z | z
        · by_cases q : m < i
          · rw [if_pos q]; simp [z]
          · rw [if_neg q]; have : k = m := by omega
            simp [this]
        · exact List.mem_cons_of_mem _ z
    · rcases List.mem_cons.mp hy with z | z
      · by_cases q : m < i
        · rw [if_pos q] at z; rw [z]; exact h2 i (by simp)
        · rw [if_neg q] at z; rw [z]; exact h2 m (by simp)
      · exact h2 y (by simp [z])
theorem minOf_ok : ∀ (l : List Int) (m k : Int), (k ∈ (m :: l) ∧ ∀ y, y ∈ (m :: l) → k ≤ y) → k = minOf m l
  | [], m, k, h => by
    have h1 : k ∈ [m] := h.1
    simpa [minOf] using h1
  | i :: r, m, k, ⟨h1, h2⟩ => by
    unfold minOf
    refine minOf_ok r _ k ⟨?_, fun y hy => ?_⟩
    · have a1 := h2 m (by simp)
      have a2 := h2 i (by simp)
      rcases List.mem_cons.mp h1 with z | z
      · by_cases q : i < m
        · rw [if_pos q]; have : k = i := by omega
          simp [this]
        · rw [if_neg q]; simp [z]
      · rcases List.mem_cons.mp z with z | z
        · by_cases q : i < m
          · rw [if_pos q]; simp [z]
          · rw [if_neg q]; have : k = m := by omega
            simp [this]
        · exact List.mem_cons_of_mem _ z
    · rcases List.mem_cons.mp hy with z | z
      · by_cases q : i < m
        · rw [if_pos q] at z; rw [z]; exact h2 i (by simp)
        · rw [if_neg q] at z; rw [z]; exact h2 m (by simp)
      · exact h2 y (by simp [z])
def fMax1 (xs : List W) (h : MH) : Res W := match lInts xs h with | some (i :: is) => .ok (.int (maxOf i is)) h | _ => .stuck
def fMin1 (xs : List W) (h : MH) : Res W := match lInts xs h with | some (i :: is) => .ok (.int (minOf i is)) h | _ => .stuck
theorem oMax1 : CallS g (rMax g.K) fMax1 := by
  intro ρ h H xs vs Q E S r f
  unfold fMax1 at f
  split at f
  · rename_i i is e
    obtain ⟨a, rfl, hs⟩ := lInts_ok S r e
    exact ⟨a, _, rfl, hs, by simp, fun m h1 h2 => f.here S (by simp only [RelW]; rw [maxOf_ok is i m ⟨h1, h2⟩])⟩
  · exact f.elim
theorem oMin1 : CallS g (rMin g.K) fMin1 := by
  intro ρ h H xs vs Q E S r f
  unfold fMin1 at f
  split at f
  · rename_i i is e
    obtain ⟨a, rfl, hs⟩ := lInts_ok S r e
    exact ⟨a, _, rfl, hs, by simp, fun m h1 h2 => f.here S (by simp only [RelW]; rw [minOf_ok is i m ⟨h1, h2⟩])⟩
  · exact f.elim
end
end M

set_option Elab.async false
set_option linter.all false
set_option maxRecDepth 100000
set_option maxHeartbeats 4000000
namespace M
open PySem PySem.Spec PyProof.Rows L2
section
variable {g : Gd} {X : Cx} {Wx : WX} {e a b c : Expr} {pos : Pos} {tg : Expr}

/-! ### slices a[lo:hi] -/
def dPart (m : Dn W) : Dn (Option Int) := dOne (fun w h => match w with | .int i => .ok (some i) h | _ => .stuck) m
def dNoPart : Dn (Option Int) := dK none
abbrev ROI : RR (Option Int) (Option Int) := fun _ _ _ a b => a = b
abbrev tO (g : Gd) (Wx : WX) (m : Dn (Option Int)) : TO := tG g ROI Wx m
theorem mo_none : PO X none (tO g Wx dNoPart) := ⟨fun pins s σ H Q I q => po_none.run pins s σ H Q I (by
  obtain ⟨ρ, ws, h, S, sl, fin⟩ := q
  exact Fin.here (R := ROI) (a := none) S rfl fin)⟩
theorem mo_some {m : Dn W} (h : PE X e (tE g Wx m)) : PO X (some e) (tO g Wx (dPart m)) := ⟨fun pins s σ H Q I q => (po_some h).run pins s σ H Q I (one_reads (R1 := RelW g) q fun ρ h H x vx S r f => by
  cases x with
  | int i =>
    simp only [RelW] at r
    exact ⟨i, r, Fin.here (R := ROI) (a := some i) S rfl f⟩
  | _ => exact f.elim)⟩
def cutW (xs : List W) (lo hi : Option Int) : List W := (xs.drop (HT.sIx xs.length 0 lo)).take (HT.sIx xs.length xs.length hi - HT.sIx xs.length 0 lo)
theorem RelWs.cut {ρ n H} {xs : List W} {vs : List V} (lo hi : Option Int) (r : RelWs g ρ n H xs vs) : RelWs g ρ n H (cutW xs lo hi) (cutV vs lo hi) := by
  unfold cutW cutV
  rw [r.len]
  exact RelWs.take _ (RelWs.drop _ r)
def wholeS (n : Nat) (lo hi : Option Int) : Bool := Nat.beq (HT.sIx n 0 lo) 0 && Nat.beq (HT.sIx n n hi) n
def fSl (x : W) (lo hi : Option Int) (h : MH) : Res W := match x with
  | .tup xs => (match wholeS xs.length lo hi with | true => .ok (.tup xs) h | false => .ok (.tup (cutW xs lo hi)) h)
  | .str z => (match Nat.ble z.length 16777216 with | true => .ok (.str (cutS z lo hi)) h | false => .stuck)
  | x => (match litems x h with | some xs => .ok (.ref h.n) (h.push (.lst (cutW xs lo hi))) | none => .stuck)
def rSlAll (K : PySem.W.Frag) : V → Option Int → Option Int → Hp → VK → Prop := fun x lo hi H Q => (rSlA K x lo hi H Q ∨ rSlL K x lo hi H Q) ∨ rSlS x lo hi H Q
theorem sl_all : SlR X (rSlAll X.K) := (sl_tupA.or sl_list).or sl_str
def dSl (m : Dn W) (l u : Dn (Option Int)) : Dn W := fun ws h => (m ws h).bnd fun x h1 => (l ws h1).bnd fun lo h2 => (u ws h2).bnd fun hi h3 => fSl x lo hi h3
theorem sl_reads {m : Dn W} {l u : Dn (Option Int)} {σ : L2.St} {H : Hp} {Q : VK} (x : tE g Wx (dSl m l u) σ H Q) : tSl (rSlAll g.K) (tE g Wx m) (tO g Wx l) (tO g Wx u) σ H Q := by
  obtain ⟨ρ, ws, h, S, sl, fin⟩ := x
  refine ⟨ρ, ws, h, S, sl, (Fin.bnd (R := RelW g) fin).mono fun vx H1 ⟨ρ1, h1, wx, X1, S1, r1, f1⟩ => ?_⟩
  refine ⟨ρ1, ws, h1, S1, sl.ext X1, (Fin.bnd (R := ROI) f1).mono fun lo H2 ⟨ρ2, h2, lo', X2, S2, r2, f2⟩ => ?_⟩
  refine ⟨ρ2, ws, h2, S2, (sl.ext X1).ext X2, (Fin.bnd (R := ROI) f2).mono fun hi H3 ⟨ρ3, h3, hi', X3, S3, r3, f3⟩ => ?_⟩
  have e2 : lo' = lo := r2
  have e3 : hi' = hi := r3
  subst e2; subst e3
  have r := (r1.ext X2).ext X3
  have lists : litems wx h3 ≠ none → fSl wx lo' hi' h3 = (match litems wx h3 with | some xs => .ok (.ref h3.n) (h3.push (.lst (cutW xs lo' hi'))) | none => .stuck) → rSlAll g.K vx lo' hi' H3 Q := by
    intro _ q
    rw [q] at f3
    split at f3
    · rename_i xs e
      obtain ⟨a, vs, rfl, hs, rr⟩ := litems_ok S3 r e
      exact .inl (.inr ⟨a, vs, rfl, hs, fun p hp => f3.push S3 (rr.cut lo' hi') hp⟩)
    · exact f3.elim
  cases wx with
  | tup xs =>
    simp only [RelW] at r
    obtain ⟨a, vs, rfl, e2, e3⟩ := r
    simp only [fSl] at f3
    refine .inl (.inl ⟨a, vs, rfl, SqT.of e2, fun hw => ?_, fun hw p hp => ?_⟩)
    · have : wholeS xs.length lo' hi' = true := by
        unfold wholeS
        rw [e3.len] at hw
        rw [hw.1, hw.2]
        simp
      rw [this] at f3
      exact f3.here S3 (by simp only [RelW]; exact ⟨a, vs, rfl, e2, e3⟩)
    · have : wholeS xs.length lo' hi' = false := by
        cases q : wholeS xs.length lo' hi' with
        | false => rfl
        | true =>
          unfold wholeS at q
          obtain ⟨q1, q2⟩ := Bool.and_eq_true_iff.mp q
          rw [e3.len] at hw
          exact absurd ⟨Nat.eq_of_beq_eq_true q1, Nat.eq_of_beq_eq_true q2⟩ hw
      rw [this] at f3
      exact f3.tup S3 (e3.cut lo' hi') hp
  | str z =>
    simp only [fSl] at f3
    split at f3
    · rename_i e
      simp only [RelW] at r
      subst r
      exact .inr ⟨z, rfl, by rw [sizeLine_eq]; exact Nat.le_of_ble_eq_true e, f3.here S3 (by simp only [RelW])⟩
    · exact f3.elim
  | fro xs => exact lists (by simp [litems]) rfl
  | ref k =>
    refine lists ?_ rfl
    intro q
    have : fSl (.ref k) lo' hi' h3 = .stuck := by
      show (match litems (.ref k) h3 with | some xs => _ | none => _) = _
      rw [q]
    rw [this] at f3
    exact f3
  | _ => exact f3.elim
theorem m_sl (hK : X.K = g.K) {lo hi : Option Expr} {m : Dn W} {l u : Dn (Option Int)} {p2 : Pos} (he : PE X e (tE g Wx m)) (hl : PO X lo (tO g Wx l)) (hu : PO X hi (tO g Wx u)) : PE X (.Subscript e (.Slice lo hi none p2) pos) (tE g Wx (dSl m l u)) :=
  weak (pe_slice (by rw [← hK]; exact sl_all) he hl hu) fun _ _ _ q => sl_reads q

/-! ### methods of lists and texts -/
def isL (w : W) (h : MH) : Bool := match litems w h with | some _ => true | none => false
def isS (w : W) (_ : MH) : Bool := match w with | .str _ => true | _ => false
def dMeth (ck : W → MH → Bool) (f : W → List W → MH → Res W) (m : Dn W) (r : Dn (List W)) : Dn W := fun ws h => (m ws h).bnd fun x h1 => match ck x h1 with
  | true => (r ws h1).bnd fun ys h2 => f x ys h2
  | false => .stuck
def MS (g : Gd) (r : V → List V → Hp → VK → Prop) (f : W → List W → MH → Res W) : Prop := ∀ ρ h H x vx xs vs (Q : VK) (E : XK), Sim g ρ h H → RelW g ρ h.n H x vx → RelWs g ρ h.n H xs vs → Fin g (RelW g) ρ h H Q E (f x xs h) → r vx vs H Q
def CkS (g : Gd) (T : String) (ck : W → MH → Bool) : Prop := ∀ ρ h H x vx, Sim g ρ h H → RelW g ρ h.n H x vx → ck x h = true → tyV g.K T vx H
theorem ck_list : CkS g "list" isL := fun ρ h H x vx S r e => by
  unfold isL at e
  split at e
  · rename_i xs q
    obtain ⟨a, vs, rfl, hs, _⟩ := litems_ok S r q
    exact .inl ⟨rfl, vs, hs⟩
  · cases e
theorem ck_str : CkS g "str" isS := fun ρ h H x vx S r e => by
  cases x with
  | str z => simp only [RelW] at r; subst r; rfl
  | _ => cases e
theorem meth_reads {T : String} {ck : W → MH → Bool} {f : W → List W → MH → Res W} {r : V → List V → Hp → VK → Prop} (ok : CkS g T ck) (o : MS g r f) {m : Dn W} {ra : Dn (List W)} {σ : L2.St} {H : Hp} {Q : VK} (x : tE g Wx (dMeth ck f m ra) σ H Q) :
    tBM g.K T r (tE g Wx m) (tA g Wx ra) σ H Q := by
  obtain ⟨ρ, ws, h, S, sl, fin⟩ := x
  refine ⟨ρ, ws, h, S, sl, (Fin.bnd (R := RelW g) fin).mono fun vx H1 ⟨ρ1, h1, wx, X1, S1, r1, f1⟩ => ?_⟩
  cases e : ck wx h1 with
  | false => simp only [e] at f1; exact f1.elim
  | true =>
    simp only [e] at f1
    refine ⟨ok ρ1 h1 H1 wx vx S1 r1 e, ρ1, ws, h1, S1, sl.ext X1, (Fin.bnd (R := RelWs g) f1).mono fun vs H2 ⟨ρ2, h2, ys, X2, S2, r2, f2⟩ => ?_⟩
    exact o ρ2 h2 H2 wx vx ys vs Q _ S2 (r1.ext X2) r2 f2
theorem m_meth (hK : X.K = g.K) {T id : String} {name : Str} {ck : W → MH → Bool} {f : W → List W → MH → Res W} {r : V → List V → Hp → VK → Prop} {o : Expr} {es : List Expr} {apos : Pos} {m : Dn W} {ra : Dn (List W)} (ok : CkS g T ck) (os : MS g r f) (pa : PlainAttrs T) (slot : Slot T name id) (hty : typeOf (.builtin id) = pure (.type "method_descriptor")) (hm : MtR X id r) (ho : PE X o (tE g Wx m)) (ha : PA X (e :: es) (tA g Wx ra))
    (hbase : attributeBase o name X.env (eval o X.env) = eval o X.env := by rfl)
    (hfew : ((backTo pos (starEach (e :: es) X.env)).all (fun x => !x.1) && (backToKw pos (keywordEach [] X.env)).all (fun x => x.1.isSome)
      && decide ((e :: es).length + ([] : List Keyword).length + (if ([] : List Keyword).isEmpty then 0 else 1) < 30)) = true := by rfl)
    (hline : (apos.endLine == pos.line) = true := by rfl) (hs : starEach (e :: es) X.env = (false, eval e X.env) :: starEach es X.env := by rfl) (hplain : (backTo pos (starEach es X.env)).any (·.1) = false := by rfl) :
    PE X (.Call (.Attribute o name apos) (e :: es) [] pos) (tE g Wx (dMeth ck f m ra)) :=
  weak (pe_bm pa slot hty hm ho ha hbase hfew hline hs hplain) fun _ _ _ q => by rw [hK]; exact meth_reads ok os q
/-- a list stored anew -/
theorem Fin.setL {ρ h H} {k : Nat} {xs ys : List W} {us : List V} {w : W} {v : V} {Q : VK} {E : XK} (S : Sim g ρ h H) (e : h.get k = some (.lst xs)) (r : RelWs g ρ h.n H ys us) (rw' : RelW g ρ h.n H w v) (f : Fin g (RelW g) ρ h H Q E (.ok w (h.set k (.lst ys)))) : Q v (upd H (ρ k) (.lst us)) :=
  f ρ _ v (Ext.set S e) (Sim.set S e r) (rw'.ext (Ext.set S e))
def fAppend (x : W) (xs : List W) (h : MH) : Res W := match x, xs with
  | .ref k, [y] => (match h.get k with
    | some (.lst ys) => (match Nat.blt ys.length 16777216 with | true => .ok .non (h.set k (.lst (ys ++ [y]))) | false => .stuck)
    | _ => .stuck)
  | _, _ => .stuck
theorem blt_ok {a b : Nat} (e : Nat.blt a b = true) : a < b := Nat.lt_of_succ_le (by simpa [Nat.blt] using e)
theorem oAppend : MS g rAppend fAppend := by
  intro ρ h H x vx xs vs Q E S r1 r2 f
  unfold fAppend at f
  split at f
  · rename_i k y
    split at f
    · rename_i ys e
      split at f
      · rename_i l
        obtain ⟨v, rfl, rv⟩ := one_of r2
        obtain ⟨_, us, e3, rr⟩ := S.atl e
        simp only [RelW] at r1
        obtain ⟨_, rfl⟩ := r1
        exact ⟨_, us, v, rfl, rfl, e3, by rw [rr.len, sizeLine_eq]; exact blt_ok l, Fin.setL S e (rr.append (.cons rv .nil)) (by simp only [RelW]) f⟩
      · exact f.elim
    · exact f.elim
  · exact f.elim
def fExtend (x : W) (xs : List W) (h : MH) : Res W := match x, xs with
  | .ref k, [y] => (match h.get k, citems y h with
    | some (.lst ys), some zs => (match Nat.ble (ys.length + zs.length) 16777216 with | true => .ok .non (h.set k (.lst (ys ++ zs))) | false => .stuck)
    | _, _ => .stuck)
  | _, _ => .stuck
theorem oExtend : MS g rExtend fExtend := by
  intro ρ h H x vx xs vs Q E S r1 r2 f
  unfold fExtend at f
  split at f
  · rename_i k y
    split at f
    · rename_i ys zs e e'
      split at f
      · rename_i l
        obtain ⟨v, rfl, rv⟩ := one_of r2
        obtain ⟨_, us, e3, rr⟩ := S.atl e
        obtain ⟨k', us', _, _, rfl, e4, rr'⟩ := citems_ok S rv e'
        simp only [RelW] at r1
        obtain ⟨_, rfl⟩ := r1
        exact ⟨_, _, us, us', rfl, rfl, e3, e4, by rw [rr.len, rr'.len, sizeLine_eq]; exact Nat.le_of_ble_eq_true l, Fin.setL S e (rr.append rr') (by simp only [RelW]) f⟩
      · exact f.elim
    · exact f.elim
  · exact f.elim
theorem m_append (hK : X.K = g.K) {o : Expr} {apos : Pos} {m : Dn W} {ra : Dn (List W)} (ho : PE X o (tE g Wx m)) (ha : PA X [e] (tA g Wx ra))
    (hbase : attributeBase o "append" X.env (eval o X.env) = eval o X.env := by rfl)
    (hfew : ((backTo pos (starEach [e] X.env)).all (fun x => !x.1) && (backToKw pos (keywordEach [] X.env)).all (fun x => x.1.isSome)
      && decide ([e].length + ([] : List Keyword).length + (if ([] : List Keyword).isEmpty then 0 else 1) < 30)) = true := by rfl)
    (hline : (apos.endLine == pos.line) = true := by rfl) (hs : starEach [e] X.env = (false, eval e X.env) :: starEach [] X.env := by rfl) : PE X (.Call (.Attribute o "append" apos) [e] [] pos) (tE g Wx (dMeth isL fAppend m ra)) :=
  m_meth hK ck_list oAppend PySem.F.plainAttrs_list PySem.F.slot_list_append PySem.F.type_list_append mt_append ho ha hbase hfew hline hs
theorem m_extend (hK : X.K = g.K) {o : Expr} {apos : Pos} {m : Dn W} {ra : Dn (List W)} (ho : PE X o (tE g Wx m)) (ha : PA X [e] (tA g Wx ra))
    (hbase : attributeBase o "extend" X.env (eval o X.env) = eval o X.env := by rfl)
    (hfew : ((backTo pos (starEach [e] X.env)).all (fun x => !x.1) && (backToKw pos (keywordEach [] X.env)).all (fun x => x.1.isSome)
      && decide ([e].length + ([] : List Keyword).length + (if ([] : List Keyword).isEmpty then 0 else 1) < 30)) = true := by rfl)
    (hline : (apos.endLine == pos.line) = true := by rfl) (hs : starEach [e] X.env = (false, eval e X.env) :: starEach [] X.env := by rfl) : PE X (.Call (.Attribute o "extend" apos) [e] [] pos) (tE g Wx (dMeth isL fExtend m ra)) :=
  m_meth hK ck_list oExtend PySem.F.plainAttrs_list PySem.F.slot_list_extend PySem.F.type_list_extend mt_extend ho ha hbase hfew hline hs

/-! ### + of lists -/
def fCat (x y : W) (h : MH) : Res W := match citems x h, citems y h with
  | some xs, some ys => (match Nat.ble (xs.length + ys.length) 16777216 with | true => .ok (.ref h.n) (h.push (.lst (xs ++ ys))) | false => .stuck)
  | _, _ => .stuck
theorem oCat : OpS g rCat fCat := by
  intro ρ h H x y vx vy Q E S r1 r2 f
  unfold fCat at f
  split at f
  · rename_i xs ys e e'
    split at f
    · rename_i l
      obtain ⟨_, us, _, _, rfl, e3, rr⟩ := citems_ok S r1 e
      obtain ⟨_, us', _, _, rfl, e4, rr'⟩ := citems_ok S r2 e'
      exact ⟨_, _, us, us', rfl, rfl, e3, e4, by rw [rr.len, rr'.len, sizeLine_eq]; exact Nat.le_of_ble_eq_true l, fun p hp => f.push S (rr.append rr') hp⟩
    · exact f.elim
  · exact f.elim
/-- + of two ints or two lists -/
def fAddA (x y : W) (h : MH) : Res W := match x with
  | .int _ => fAdd x y h
  | _ => fCat x y h
theorem oAddA : OpS g (fun x y H Q => (rI0 fun i j => .int (i + j)) x y H Q ∨ rCat x y H Q) fAddA := by
  intro ρ h H x y vx vy Q E S r1 r2 f
  cases x with
  | int i => exact .inl (oI ρ h H _ y vx vy Q E S r1 r2 f)
  | _ => exact .inr (oCat ρ h H _ y vx vy Q E S r1 r2 f)
theorem m_addA {ma mb : Dn W} (ha : PE X a (tE g Wx ma)) (hb : PE X b (tE g Wx mb)) : PE X (.BinOp a .Add b pos) (tE g Wx (dOp fAddA ma mb)) := m_op (op_add.or op_cat) oAddA ha hb
/-- * of a list by an int -/
def fRep (x y : W) (h : MH) : Res W := match citems x h, y with
  | some xs, .int k => (match smallI k && Nat.ble (xs.length * k.toNat) 16777216 with | true => .ok (.ref h.n) (h.push (.lst (List.replicate k.toNat xs).flatten)) | false => .stuck)
  | _, _ => .stuck
theorem RelWs.rep {ρ n H} {xs : List W} {vs : List V} (r : RelWs g ρ n H xs vs) : ∀ k : Nat, RelWs g ρ n H (List.replicate k xs).flatten (List.replicate k vs).flatten
  | 0 => RelWs.nil
  | k + 1 => by
    rw [List.replicate_succ, List.replicate_succ, List.flatten_cons, List.flatten_cons]
    exact r.append (RelWs.rep r k)
end
end M

set_option Elab.async false
set_option linter.all false
set_option maxRecDepth 100000
set_option maxHeartbeats 4000000
namespace M
open PySem PySem.Spec PyProof.Rows L2
section
variable {g : Gd} {X : Cx} {Wx : WX} {e a b c : Expr} {pos : Pos} {tg : Expr}

/-! ### list times int -/
theorem oRep : OpS g rRep fRep := by
  intro ρ h H x y vx vy Q E S r1 r2 f
  unfold fRep at f
  split at f
  · rename_i xs k e
    split at f
    · rename_i l
      obtain ⟨l1, l2⟩ := Bool.and_eq_true_iff.mp l
      obtain ⟨_, us, _, _, rfl, e3, rr⟩ := citems_ok S r1 e
      simp only [RelW] at r2
      obtain ⟨b1, b2⟩ := smallI_ok l1
      exact ⟨_, k, us, rfl, r2, e3, by omega, by omega, by rw [rr.len, sizeLine_eq]; exact Nat.le_of_ble_eq_true l2, fun p hp => f.push S (rr.rep _) hp⟩
    · exact f.elim
  · exact f.elim
def fMulA (x y : W) (h : MH) : Res W := match x with
  | .int _ => fMul x y h
  | _ => fRep x y h
theorem oMulA : OpS g (fun x y H Q => (rI CMulW fun i j => .int (i * j)) x y H Q ∨ rRep x y H Q) fMulA := by
  intro ρ h H x y vx vy Q E S r1 r2 f
  cases x with
  | int i => exact .inl ((oIf cMul_ok) ρ h H _ y vx vy Q E S r1 r2 f)
  | _ => exact .inr (oRep ρ h H _ y vx vy Q E S r1 r2 f)
theorem m_mulA {ma mb : Dn W} (ha : PE X a (tE g Wx ma)) (hb : PE X b (tE g Wx mb)) : PE X (.BinOp a .Mult b pos) (tE g Wx (dOp fMulA ma mb)) := m_op (op_mulW.or op_rep) oMulA ha hb

/-! ### data: ==, != -/
def mapD (f : W → Option PyData) : List W → Option (List PyData)
  | [] => some []
  | x :: xs => match f x, mapD f xs with
    | some d, some ds => some (d :: ds)
    | _, _ => none
def toD : Nat → MH → W → Option PyData
  | 0, _, _ => none
  | f + 1, h, w => match w with
    | .non => some .none
    | .bl b => some (.bool b)
    | .int i => some (.int i)
    | .str x => if PyData.strOk x = true then some (.str x) else none
    | .tup xs => (mapD (toD f h) xs).map .tuple
    | .fro xs => (mapD (toD f h) xs).map .list
    | .ref k => (match h.get k with | some (.lst xs) => (mapD (toD f h) xs).map .list | _ => none)
    | _ => none
theorem mapD_ok {ρ h H} {f : W → Option PyData} {n : Nat} (S : Sim g ρ h H) (F : ∀ w v d, f w = some d → RelW g ρ h.n H w v → Dp g.K H v d ∧ d.canLay0 = true ∧ d.depth ≤ n) :
    ∀ (xs : List W) (vs : List V) (ds : List PyData), mapD f xs = some ds → RelWs g ρ h.n H xs vs → DpAll g.K H vs ds ∧ PyData.canLayAll0 ds = true ∧ PyData.depthAll ds ≤ n
  | [], vs, ds, e, r => by
    unfold mapD at e
    injection e with e
    subst e
    rw [r.inv_nil]
    exact ⟨.nil, rfl, Nat.zero_le _⟩
  | x :: xs, vs, ds, e, r => by
    unfold mapD at e
    split at e
    · rename_i d ds' e1 e2
      injection e with e
      subst e
      obtain ⟨v, us, rfl, r1, r2⟩ := r.inv_cons
      obtain ⟨a1, a2, a3⟩ := F _ _ _ e1 r1
      obtain ⟨b1, b2, b3⟩ := mapD_ok S F xs us ds' e2 r2
      refine ⟨.cons a1 b1, ?_, ?_⟩
      · simp only [PyData.canLayAll0, a2, b2, Bool.and_self]
      · simp only [PyData.depthAll]; omega
    · cases e
theorem toD_ok {ρ h H} (S : Sim g ρ h H) : ∀ (f : Nat) (w : W) (v : V) (d : PyData), toD f h w = some d → RelW g ρ h.n H w v → Dp g.K H v d ∧ d.canLay0 = true ∧ d.depth ≤ f
  | 0, w, v, d, e, r => by unfold toD at e; cases e
  | f + 1, w, v, d, e, r => by
    have IH : ∀ w v d, toD f h w = some d → RelW g ρ h.n H w v → Dp g.K H v d ∧ d.canLay0 = true ∧ d.depth ≤ f := toD_ok S f
    cases w with
    | non => simp only [toD] at e; injection e with e; simp only [RelW] at r; subst e; subst r; exact ⟨.non, rfl, Nat.zero_le _⟩
    | bl b => simp only [toD] at e; injection e with e; simp only [RelW] at r; subst e; subst r; exact ⟨.bl b, rfl, Nat.zero_le _⟩
    | int i => simp only [toD] at e; injection e with e; simp only [RelW] at r; subst e; subst r; exact ⟨.int i, rfl, Nat.zero_le _⟩
    | str x =>
      simp only [toD] at e
      split at e
      · rename_i q
        injection e with e; simp only [RelW] at r; subst e; subst r; exact ⟨.str x, q, Nat.zero_le _⟩
      · cases e
    | tup xs =>
      simp only [toD] at e
      obtain ⟨ds, e1, rfl⟩ := Option.map_eq_some_iff.mp e
      simp only [RelW] at r
      obtain ⟨a, vs, rfl, h1, h2⟩ := r
      obtain ⟨b1, b2, b3⟩ := mapD_ok S IH xs vs ds e1 h2
      refine ⟨.tup (SqT.of h1) b1, by simp only [PyData.canLay0]; exact b2, by simp only [PyData.depth]; omega⟩
    | fro xs =>
      simp only [toD] at e
      obtain ⟨ds, e1, rfl⟩ := Option.map_eq_some_iff.mp e
      simp only [RelW] at r
      obtain ⟨a, vs, rfl, h1, h2⟩ := r
      obtain ⟨b1, b2, b3⟩ := mapD_ok S IH xs vs ds e1 h2
      refine ⟨.lst h1.sql b1, by simp only [PyData.canLay0]; exact b2, by simp only [PyData.depth]; omega⟩
    | ref k =>
      simp only [toD] at e
      split at e
      · rename_i xs q
        obtain ⟨ds, e1, rfl⟩ := Option.map_eq_some_iff.mp e
        simp only [RelW] at r
        obtain ⟨_, rfl⟩ := r
        obtain ⟨_, vs, h1, h2⟩ := S.atl q
        obtain ⟨b1, b2, b3⟩ := mapD_ok S IH xs vs ds e1 h2
        exact ⟨.lst (SqL.of h1) b1, by simp only [PyData.canLay0]; exact b2, by simp only [PyData.depth]; omega⟩
      · cases e
    | fn k => simp only [toD] at e; cases e
    | opq => simp only [toD] at e; cases e
    | ty t => simp only [toD] at e; cases e
theorem shaped_of {d : PyData} (a : d.canLay0 = true) (b : d.depth ≤ 60) : SeqAt.shaped d = true := by
  unfold SeqAt.shaped
  rw [a, decide_eq_true (show d.depth ≤ 64 by omega)]
  rfl
/-- equal by ==, the quick cases first -/
def fEq (x y : W) (h : MH) : Res W := match x, y with
  | .int i, .int j => .ok (.bl (i == j)) h
  | x, y => match toD 60 h x, toD 60 h y with
    | some d, some e => .ok (.bl (PyData.eqv d e)) h
    | _, _ => .stuck
def fNe (x y : W) (h : MH) : Res W := match x, y with
  | .int i, .int j => .ok (.bl (!(i == j))) h
  | x, y => match toD 60 h x, toD 60 h y with
    | some d, some e => .ok (.bl (!PyData.eqv d e)) h
    | _, _ => .stuck
theorem oEq : OpS g (rEqD g.K) fEq := by
  intro ρ h H x y vx vy Q E S r1 r2 f
  unfold fEq at f
  split at f
  · rename_i i j
    simp only [RelW] at r1 r2
    subst r1; subst r2
    exact ⟨.int i, .int j, .int i, .int j, rfl, rfl, by simp only [PyData.eqv]; exact f.here S (by simp only [RelW])⟩
  · split at f
    · rename_i d e e1 e2
      obtain ⟨a1, a2, a3⟩ := toD_ok S 60 _ _ _ e1 r1
      obtain ⟨b1, b2, b3⟩ := toD_ok S 60 _ _ _ e2 r2
      exact ⟨d, e, a1, b1, shaped_of a2 a3, shaped_of b2 b3, f.here S (by simp only [RelW])⟩
    · exact f.elim
theorem oNe : OpS g (rNeD g.K) fNe := by
  intro ρ h H x y vx vy Q E S r1 r2 f
  unfold fNe at f
  split at f
  · rename_i i j
    simp only [RelW] at r1 r2
    subst r1; subst r2
    exact ⟨.int i, .int j, .int i, .int j, rfl, rfl, by simp only [PyData.eqv]; exact f.here S (by simp only [RelW])⟩
  · split at f
    · rename_i d e e1 e2
      obtain ⟨a1, a2, a3⟩ := toD_ok S 60 _ _ _ e1 r1
      obtain ⟨b1, b2, b3⟩ := toD_ok S 60 _ _ _ e2 r2
      exact ⟨d, e, a1, b1, shaped_of a2 a3, shaped_of b2 b3, f.here S (by simp only [RelW])⟩
    · exact f.elim
/-- is None -/
def fIsN (x y : W) (h : MH) : Res W := match y with
  | .non => (match x with | .opq => .stuck | .non => .ok (.bl true) h | _ => .ok (.bl false) h)
  | _ => .stuck
def fNotN (x y : W) (h : MH) : Res W := match y with
  | .non => (match x with | .opq => .stuck | .non => .ok (.bl false) h | _ => .ok (.bl true) h)
  | _ => .stuck
theorem non_iff {ρ n H} {x : W} {v : V} (r : RelW g ρ n H x v) : x ≠ .opq → (decide (v = .non) = match x with | .non => true | _ => false) := by
  intro hx
  cases x with
  | opq => exact absurd rfl hx
  | non => simp only [RelW] at r; simp [r]
  | bl b => simp only [RelW] at r; simp [r]
  | int b => simp only [RelW] at r; simp [r]
  | str b => simp only [RelW] at r; simp [r]
  | tup b => simp only [RelW] at r; obtain ⟨a, vs, rfl, _⟩ := r; simp
  | fro b => simp only [RelW] at r; obtain ⟨a, vs, rfl, _⟩ := r; simp
  | ref b => simp only [RelW] at r; simp [r.2]
  | fn b => simp only [RelW] at r; simp [r]
  | ty b => simp only [RelW] at r; simp [r]
theorem oIsN : OpS g (fun x y H Q => y = .non ∧ Q (.bl (decide (x = .non))) H) fIsN := by
  intro ρ h H x y vx vy Q E S r1 r2 f
  cases y <;> first | exact f.elim | skip
  simp only [RelW] at r2
  refine ⟨r2, ?_⟩
  cases x <;> first | exact f.elim | (rw [non_iff r1 (by simp)]; exact f.here S (by simp only [RelW]))
theorem oNotN : OpS g (fun x y H Q => y = .non ∧ Q (.bl (!decide (x = .non))) H) fNotN := by
  intro ρ h H x y vx vy Q E S r1 r2 f
  cases y <;> first | exact f.elim | skip
  simp only [RelW] at r2
  refine ⟨r2, ?_⟩
  cases x <;> first | exact f.elim | (rw [non_iff r1 (by simp)]; exact f.here S (by simp only [RelW]; rfl))
/-! ### order of tuples of ints -/
def gtI (ns ms : List Int) : Bool := Ob.lexAt (fun j => decide (ns.getD j 0 = ms.getD j 0)) (fun j => decide (ms.getD j 0 < ns.getD j 0)) (decide (ns.length > ms.length)) 0 (min ns.length ms.length)
def leI (ns ms : List Int) : Bool := Ob.lexAt (fun j => decide (ns.getD j 0 = ms.getD j 0)) (fun j => decide (ns.getD j 0 ≤ ms.getD j 0)) (decide (ns.length ≤ ms.length)) 0 (min ns.length ms.length)
def rGtT (K : PySem.W.Frag) : R2 := fun x y H Q => ∃ (a b : Addr) (ns ms : List Int), x = .ref a ∧ y = .ref b ∧ SqT K H a (ns.map V.int) ∧ SqT K H b (ms.map V.int) ∧ Q (.bl (gtI ns ms)) H
/-- a tuple of ints, in the real heap -/
theorem ints_of {pins : List (Addr × Obj)} {s : Shared} {σ : L2.St} {H : Hp} {a : Addr} {ns : List Int} (I : Inv X pins σ H s) (h : SqT X.K H a (ns.map V.int)) :
    ∃ us : Array Value, s.heap.IsTuple a us ∧ us.size = ns.length ∧ ∀ (j : Nat) (hj : j < us.size), ∃ t, us[j] = .int (ns.getD j 0) t := by
  obtain ⟨its, r, isT, _⟩ := I.tuple h
  have v := Vals.ints r
  exact ⟨its.toArray, isT, by rw [List.size_toArray, v.length], fun j hj => PyProof.Rows.IntsAre.int_at v _ _ (by simpa using hj)⟩
theorem op_gtT (hu : X.A.units < cLine) : OpR X (compareOp .Gt) (rGtT X.K) := by
  rintro pins s σ H _ _ _ _ Q I rx ry ⟨a, b, ns, ms, rfl, rfl, ha, hb, q⟩
  cases rx
  cases ry
  obtain ⟨us, isA, la, va⟩ := ints_of I ha
  obtain ⟨ws, isB, lb, vb⟩ := ints_of I hb
  have R := Ob.RcOp.tuples_gt (A := X.A) (s := s) (e := fun j => decide (ns.getD j 0 = ms.getD j 0)) (r := fun j => decide (ms.getD j 0 < ns.getD j 0)) isA isB hu
    (fun j h1 h2 => by
      obtain ⟨t1, e1⟩ := va j h1
      obtain ⟨t2, e2⟩ := vb j h2
      have same : decide (ns.getD j 0 = ms.getD j 0) = (ns.getD j 0 == ms.getD j 0) := by rw [Bool.eq_iff_iff, decide_eq_true_iff, beq_iff_eq]
      rw [e1, e2, same]
      exact SeqAt.EqAt.int_int _ _ _ _)
    (fun j h1 h2 _ => by
      obtain ⟨t1, e1⟩ := va j h1
      obtain ⟨t2, e2⟩ := vb j h2
      rw [e1, e2]
      exact Ob.RcOp.gt_int _ _ _ _)
  rw [la, lb] at R
  exact R X.prog X.w X.xe (EP X pins σ Q) ⟨.bl _, H, I, rfl, q⟩
def tInts (w : W) : Option (List Int) := match w with
  | .tup xs => allI xs
  | _ => none
theorem tInts_ok {ρ n H} {w : W} {v : V} {is : List Int} (r : RelW g ρ n H w v) (e : tInts w = some is) : ∃ a, v = .ref a ∧ SqT g.K H a (is.map V.int) := by
  cases w with
  | tup xs =>
    simp only [RelW] at r
    obtain ⟨a, vs, rfl, h1, h2⟩ := r
    exact ⟨a, rfl, by rw [← allI_ok e h2]; exact SqT.of h1⟩
  | _ => cases e
def fT (k : List Int → List Int → Bool) (x y : W) (h : MH) : Res W := match tInts x, tInts y with
  | some is, some js => .ok (.bl (k is js)) h
  | _, _ => .stuck
def fGtA (x y : W) (h : MH) : Res W := match x with
  | .int _ => fGt x y h
  | _ => fT gtI x y h
def fLtA (x y : W) (h : MH) : Res W := match x with
  | .int _ => fLt x y h
  | _ => fT HT.lexLt x y h
def fLeA (x y : W) (h : MH) : Res W := match x with
  | .int _ => fLe x y h
  | _ => fT leI x y h
theorem oGtT : OpS g (rGtT g.K) (fT gtI) := by
  intro ρ h H x y vx vy Q E S r1 r2 f
  unfold fT at f
  split at f
  · rename_i is js e1 e2
    obtain ⟨a, rfl, h1⟩ := tInts_ok r1 e1
    obtain ⟨b, rfl, h2⟩ := tInts_ok r2 e2
    exact ⟨a, b, is, js, rfl, rfl, h1, h2, f.here S (by simp only [RelW])⟩
  · exact f.elim
theorem oLtT : OpS g (rLtT g.K) (fT HT.lexLt) := by
  intro ρ h H x y vx vy Q E S r1 r2 f
  unfold fT at f
  split at f
  · rename_i is js e1 e2
    obtain ⟨a, rfl, h1⟩ := tInts_ok r1 e1
    obtain ⟨b, rfl, h2⟩ := tInts_ok r2 e2
    exact ⟨a, b, is, js, rfl, rfl, h1, h2, f.here S (by simp only [RelW])⟩
  · exact f.elim
theorem oLeT : OpS g (rLeT g.K) (fT leI) := by
  intro ρ h H x y vx vy Q E S r1 r2 f
  unfold fT at f
  split at f
  · rename_i is js e1 e2
    obtain ⟨a, rfl, h1⟩ := tInts_ok r1 e1
    obtain ⟨b, rfl, h2⟩ := tInts_ok r2 e2
    exact ⟨a, b, is, js, rfl, rfl, h1, h2, f.here S (by simp only [RelW]; rfl)⟩
  · exact f.elim
theorem OpS.orI {r r' : R2} {f f' k : W → W → MH → Res W} (o : OpS g r f) (o' : OpS g r' f') (hk : ∀ x y h, k x y h = match x with | .int _ => f x y h | _ => f' x y h) : OpS g (fun x y H Q => r x y H Q ∨ r' x y H Q) k := by
  intro ρ h H x y vx vy Q E S r1 r2 q
  rw [hk] at q
  cases x with
  | int i => exact .inl (o ρ h H _ y vx vy Q E S r1 r2 q)
  | _ => exact .inr (o' ρ h H _ y vx vy Q E S r1 r2 q)
theorem oGtA : OpS g (fun x y H Q => (rI0 fun i j => .bl (decide (j < i))) x y H Q ∨ rGtT g.K x y H Q) fGtA := OpS.orI oB oGtT fun x y h => by unfold fGtA; rfl
theorem oLtA : OpS g (fun x y H Q => (rI0 fun i j => .bl (decide (i < j))) x y H Q ∨ rLtT g.K x y H Q) fLtA := OpS.orI oB oLtT fun x y h => by unfold fLtA; rfl
theorem oLeA : OpS g (fun x y H Q => (rI0 fun i j => .bl (decide (i ≤ j))) x y H Q ∨ rLeT g.K x y H Q) fLeA := OpS.orI oB oLeT fun x y h => by unfold fLeA; rfl
/-! ### which rule stands for which sign -/
structure Cmp1 (g : Gd) (X : Cx) (op : CmpOp) (f : W → W → MH → Res W) : Prop where
  ex : ∃ r, OpR X (compareOp op) r ∧ OpS g r f
variable (hK : X.K = g.K) {k : Nat} (hr : Room k X.A)
include hK hr
theorem cm_eq : Cmp1 g X .Eq fEq := ⟨_, op_eqD hr.units, by rw [hK]; exact oEq⟩
theorem cm_ne : Cmp1 g X .NotEq fNe := ⟨_, op_neD hr.units, by rw [hK]; exact oNe⟩
theorem cm_lt : Cmp1 g X .Lt fLtA := ⟨_, op_lt.or (op_ltT hr.units0), by rw [hK]; exact oLtA⟩
theorem cm_le : Cmp1 g X .LtE fLeA := ⟨_, op_le.or (op_leT hr.units0), by rw [hK]; exact oLeA⟩
theorem cm_gt : Cmp1 g X .Gt fGtA := ⟨_, op_gt.or (op_gtT hr.units0), by rw [hK]; exact oGtA⟩
theorem cm_ge : Cmp1 g X .GtE fGe := ⟨_, op_ge, oB⟩
theorem cm_is : Cmp1 g X .Is fIsN := ⟨_, op_isN, oIsN⟩
theorem cm_isnot : Cmp1 g X .IsNot fNotN := ⟨_, op_notN, oNotN⟩
end
section
variable {g : Gd} {X : Cx} {Wx : WX} {e a b c : Expr} {pos : Pos} {tg : Expr}
theorem m_cm {op : CmpOp} {f : W → W → MH → Res W} {ma mb : Dn W} (C : Cmp1 g X op f) (ha : PE X a (tE g Wx ma)) (hb : PE X b (tE g Wx mb)) (hm : behindInMarks op b = false) : PE X (.Compare a [op] [b] pos) (tE g Wx (dOp f ma mb)) := by
  obtain ⟨r, h1, h2⟩ := C.ex
  exact m_cmp h1 h2 ha hb hm
theorem mt_cm {op : CmpOp} {f : W → W → MH → Res W} {ma mb : Dn W} (C : Cmp1 g X op f) (ha : PE X a (tE g Wx ma)) (hb : PE X b (tE g Wx mb)) (hm : behindInMarks op b = false) : PT X (.Compare a [op] [b] pos) (tT g Wx (dTest (dOp f ma mb))) := by
  obtain ⟨r, h1, h2⟩ := C.ex
  exact mt_cmp h1 h2 ha hb hm
/-! ### in -/
def flV : W → Option V
  | .non => some .non
  | .bl b => some (.bl b)
  | .int i => some (.int i)
  | .str x => some (.str x)
  | _ => none
def flVs : List W → Option (List V)
  | [] => some []
  | x :: xs => match flV x, flVs xs with
    | some v, some vs => some (v :: vs)
    | _, _ => none
theorem flV_ok {ρ n H} {w : W} {v u : V} (r : RelW g ρ n H w v) (e : flV w = some u) : v = u ∧ flatV u = true := by
  cases w <;> first | (unfold flV at e; cases e; done) | skip
  all_goals (simp only [flV] at e; injection e with e; simp only [RelW] at r; subst e; subst r; exact ⟨rfl, rfl⟩)
theorem flVs_ok {ρ n H} : ∀ {xs : List W} {vs us : List V}, RelWs g ρ n H xs vs → flVs xs = some us → vs = us ∧ us.all flatV = true
  | [], vs, us, r, e => by
    unfold flVs at e
    injection e with e
    rw [← e, r.inv_nil]; exact ⟨rfl, rfl⟩
  | x :: xs, vs, us, r, e => by
    unfold flVs at e
    split at e
    · rename_i u us' e1 e2
      injection e with e
      subst e
      obtain ⟨v, w, rfl, r1, r2⟩ := r.inv_cons
      obtain ⟨rfl, a⟩ := flV_ok r1 e1
      obtain ⟨rfl, b⟩ := flVs_ok r2 e2
      exact ⟨rfl, by simp [a, b]⟩
    · cases e
def fInQ (neg : Bool) (x y : W) (h : MH) : Res W := match flV x, (items y h).bind flVs with
  | some u, some us => .ok (.bl (if neg then !inV u us else inV u us)) h
  | _, _ => .stuck
theorem oInQ {neg : Bool} : OpS g (rIn g.K neg) (fInQ neg) := by
  intro ρ h H x y vx vy Q E S r1 r2 f
  unfold fInQ at f
  split at f
  · rename_i u us e1 e2
    obtain ⟨ys, e3, e4⟩ := Option.bind_eq_some_iff.mp e2
    obtain ⟨rfl, fx⟩ := flV_ok r1 e1
    obtain ⟨a, vs, rfl, hs, rr⟩ := items_ok S r2 e3
    obtain ⟨rfl, fy⟩ := flVs_ok rr e4
    exact ⟨a, vs, rfl, hs, fx, fy, f.here S (by simp only [RelW])⟩
  · exact f.elim
def fInT (neg : Bool) (x y : W) (h : MH) : Res W := match x, y with
  | .str i, .str j => .ok (.bl (if neg then !(!(Builtin.Str.occurrences j i 0 j.length 1).isEmpty) else !(Builtin.Str.occurrences j i 0 j.length 1).isEmpty)) h
  | _, _ => .stuck
def fIn (neg : Bool) (x y : W) (h : MH) : Res W := match y with
  | .str _ => fInT neg x y h
  | _ => fInQ neg x y h
theorem cm_in : ∃ r, OpR X (compareOp .In) r ∧ (X.K = g.K → OpS g r (fIn false)) := by
  refine ⟨_, op_in_str.or op_in_seq, fun hK => ?_⟩
  intro ρ h H x y vx vy Q E S r1 r2 f
  cases y with
  | str j =>
    cases x with
    | str i =>
      simp only [RelW] at r1 r2
      subst r1; subst r2
      exact .inl ⟨i, j, rfl, rfl, f.here S (by simp only [RelW]; rfl)⟩
    | _ => exact f.elim
  | _ => exact .inr (by rw [hK]; exact oInQ ρ h H x _ vx vy Q E S r1 r2 f)
theorem cm_notin : ∃ r, OpR X (compareOp .NotIn) r ∧ (X.K = g.K → OpS g r (fIn true)) := by
  refine ⟨_, L2.op_notin_str.or op_notIn_seq, fun hK => ?_⟩
  intro ρ h H x y vx vy Q E S r1 r2 f
  cases y with
  | str j =>
    cases x with
    | str i =>
      simp only [RelW] at r1 r2
      subst r1; subst r2
      exact .inl ⟨i, j, rfl, rfl, f.here S (by simp only [RelW]; rfl)⟩
    | _ => exact f.elim
  | _ => exact .inr (by rw [hK]; exact oInQ ρ h H x _ vx vy Q E S r1 r2 f)
theorem cm_in1 (hK : X.K = g.K) : Cmp1 g X .In (fIn false) := let ⟨r, a, b⟩ := cm_in; ⟨r, a, b hK⟩
theorem cm_notin1 (hK : X.K = g.K) : Cmp1 g X .NotIn (fIn true) := let ⟨r, a, b⟩ := cm_notin; ⟨r, a, b hK⟩
/-! ### a < b < c -/
def dChain (f f' : W → W → MH → Res W) (a b c : Dn W) : Dn W := fun ws h => (a ws h).bnd fun x h1 => (b ws h1).bnd fun y h2 => (f x y h2).bnd fun z h3 => match z with
  | .bl true => (c ws h3).bnd fun u h4 => f' y u h4
  | .bl false => .ok (.bl false) h3
  | _ => .stuck
theorem m_chainI {op op' : CmpOp} {p p' : Int → Int → Bool} {ma mb mc : Dn W} (ho : OpR X (compareOp op) (rI0 fun i j => .bl (p i j))) (ho' : OpR X (compareOp op') (rI0 fun i j => .bl (p' i j)))
    (ha : PE X a (tE g Wx ma)) (hb : PE X b (tE g Wx mb)) (hc : PE X c (tE g Wx mc)) : True := trivial
end
end M

set_option Elab.async false
set_option linter.all false
set_option maxRecDepth 100000
set_option maxHeartbeats 4000000
namespace M
open PySem PySem.Spec PyProof.Rows L2

/-! ### isinstance -/
def tyW (w : W) (h : MH) : Option Ty := match w with
  | .non => some .non
  | .bl _ => some .bool
  | .int _ => some .int
  | .str _ => some .str
  | .tup _ => some .tuple
  | .fro _ => some .list
  | .ref k => (match h.get k with | some (.lst _) => some .list | _ => none)
  | _ => none
/-- is a the type b, or below it -/
def subTy : Ty → Ty → Bool
  | .non, .non => true
  | .bool, .bool => true
  | .bool, .int => true
  | .int, .int => true
  | .str, .str => true
  | .list, .list => true
  | .tuple, .tuple => true
  | .dict, .dict => true
  | .set, .set => true
  | _, _ => false
theorem subTy_ok : ∀ a b : Ty, kitB a.nm b.nm = some (subTy a b) := by
  intro a b
  cases a <;> cases b <;> decide +kernel
section
variable {g : Gd} {X : Cx} {Wx : WX} {e a b c : Expr} {pos : Pos} {tg : Expr}
theorem tyW_ok {ρ h H} {w : W} {v : V} {t : Ty} (S : Sim g ρ h H) (r : RelW g ρ h.n H w v) (e : tyW w h = some t) : TyX g.K H v (.type t.nm) := by
  cases w with
  | non => simp only [tyW] at e; injection e with e; simp only [RelW] at r; subst e; subst r; exact .base .non
  | bl b => simp only [tyW] at e; injection e with e; simp only [RelW] at r; subst e; subst r; exact .base (.bl b)
  | int b => simp only [tyW] at e; injection e with e; simp only [RelW] at r; subst e; subst r; exact .base (.int b)
  | str b => simp only [tyW] at e; injection e with e; simp only [RelW] at r; subst e; subst r; exact .base (.str b)
  | tup b =>
    simp only [tyW] at e; injection e with e; simp only [RelW] at r; subst e
    obtain ⟨a, vs, rfl, h1, _⟩ := r
    exact .base (.tup h1)
  | fro b =>
    simp only [tyW] at e; injection e with e; simp only [RelW] at r; subst e
    obtain ⟨a, vs, rfl, h1, _⟩ := r
    rcases h1 with ⟨o, h1⟩ | h1
    · exact .base (.frz h1)
    · rcases h1 with (h1 | ⟨o, h1⟩) | ⟨o, its, n, h1, h2, _⟩
      · cases h1
      · cases h1
      · exact .kList h1 h2
  | ref k =>
    simp only [tyW] at e
    split at e
    · rename_i xs q
      injection e with e; subst e
      simp only [RelW] at r
      obtain ⟨_, rfl⟩ := r
      obtain ⟨_, vs, h1, _⟩ := S.atl q
      exact .base (.lst h1)
    · cases e
  | _ => cases e
def tysW : List W → Option (List Ty)
  | [] => some []
  | .ty t :: r => (tysW r).map (t :: ·)
  | _ :: _ => none
def fIsi (xs : List W) (h : MH) : Res W := match xs with
  | [x, .ty t] => (match tyW x h with | some k => .ok (.bl (subTy k t)) h | none => .stuck)
  | [x, .tup ts] => (match tyW x h, tysW ts with | some k, some l => .ok (.bl (l.any (subTy k))) h | _, _ => .stuck)
  | _ => .stuck
theorem kitAny_of {K : PySem.W.Frag} (k : Ty) : ∀ l : List Ty, PySem.W.kitAny K (.type k.nm) (l.map fun t => Value.type t.nm) = some (l.any (subTy k))
  | [] => kitAny_nil
  | t :: l => by
    rw [List.map_cons, List.any_cons]
    refine kitAny_cons (b := subTy k t) (kit_ty (subTy_ok k t)) (fun q => ?_) fun q => ?_
    · rw [q, Bool.false_or]; exact kitAny_of k l
    · rw [q, Bool.true_or]
theorem tysW_ok {ρ n H} : ∀ {xs : List W} {vs : List V} {l : List Ty}, RelWs g ρ n H xs vs → tysW xs = some l → vs = l.map fun t => V.ty t.nm
  | [], vs, l, r, e => by
    unfold tysW at e
    injection e with e
    rw [← e, r.inv_nil]; rfl
  | x :: xs, vs, l, r, e => by
    cases x <;> first | (unfold tysW at e; cases e; done) | skip
    rename_i t
    unfold tysW at e
    obtain ⟨l', e1, rfl⟩ := Option.map_eq_some_iff.mp e
    obtain ⟨v, u, rfl, r1, r2⟩ := r.inv_cons
    simp only [RelW] at r1
    rw [r1, tysW_ok r2 e1]
    rfl
theorem clsAll : ∀ l : List Ty, Paired ClsV (l.map fun t => V.ty t.nm) (l.map fun t => Value.type t.nm)
  | [] => .nil
  | t :: l => .cons (.ty t.nm) (clsAll l)
theorem oIsi : CallS g (fun xs H Q => rIsi g.K xs H Q ∨ rIsiT g.K xs H Q) fIsi := by
  intro ρ h H xs vs Q E S r f
  unfold fIsi at f
  split at f
  · rename_i x t
    split at f
    · rename_i k e
      obtain ⟨v, u, rfl, r1, r2⟩ := two_of r
      simp only [RelW] at r2
      subst r2
      exact .inl ⟨v, _, _, _, _, rfl, .ty _, tyW_ok S r1 e, kit_ty (subTy_ok k t), f.here S (by simp only [RelW])⟩
    · exact f.elim
  · rename_i x ts
    split at f
    · rename_i k l e e2
      obtain ⟨v, u, rfl, r1, r2⟩ := two_of r
      simp only [RelW] at r2
      obtain ⟨a, us, rfl, h1, h2⟩ := r2
      rw [tysW_ok h2 e2] at h1
      exact .inr ⟨v, a, _, _, _, _, rfl, h1, clsAll l, tyW_ok S r1 e, kitAny_of k l, f.here S (by simp only [RelW])⟩
    · exact f.elim
  · exact f.elim
/-- a built-in type as a value -/
theorem m_ty {x : Str} {t : Ty} (hg : Gl X x) (hm : X.mg x = none) (hv : bootBuiltins x = some (.type t.nm)) (hn : x ≠ "__name__" := by decide) (hd : (x == ("__debug__" : Str)) = false := by decide) : PE X (.Name x pos) (tE g Wx (dC (.ty t))) :=
  weak (pe_bltn (v := .ty t.nm) hg hm hv rfl hn hd) fun _ _ _ q => const_reads (g := g) (v := .ty t.nm) (fun _ _ _ => by simp only [RelW]) q

/-! ### xs[i] = v -/
def dSetIx (m mo mi : Dn W) : DS := fun ws h => (m ws h).bndS ws fun v h1 => (mo ws h1).bndS ws fun o h2 => (mi ws h2).bndS ws fun i h3 => match o, i with
  | .ref k, .int i => (match h3.get k with
    | some (.lst xs) => (match ixN xs.length i with
      | some j => .nx ws (h3.set k (.lst (xs.set j v)))
      | none => .stuck)
    | _ => .stuck)
  | _, _ => .stuck
theorem bndS_reads {α α' : Type} {R : RR α α'} {ρ h H} {D : Ends} {ws : WS} {σ : L2.St} {r : Res α} {f : α → MH → SR} (sl : Sl g ρ h.n H ws σ) (fin : FinS g ρ h H D Wx (r.bndS ws f)) :
    Fin g R ρ h H (fun b H1 => ∃ ρ1 h1 a, Ext ρ h.n H ρ1 h1.n H1 ∧ Sim g ρ1 h1 H1 ∧ R ρ1 h1.n H1 a b ∧ FinS g ρ1 h1 H1 D Wx (f a h1)) (fun c d H' => Wx c d σ H') r := by
  cases r with
  | ok a h1 => exact fun ρ1 H1 b X s r => ⟨ρ1, h1, a, X, s, r, FinS.later X fin⟩
  | exc c fs h' => exact fun ρ' H' cls d x s q => fin ρ' H' σ cls d x s (sl.ext x) q
  | stuck => exact fin
theorem setIx_reads {D : Ends} {m mo mi : Dn W} {σ : L2.St} {H : Hp} (x : tS g Wx (dSetIx m mo mi) D σ H) : tAsg (tE g Wx m) (gSub (tE g Wx mo) (tE g Wx mi) rSetL) D σ H := by
  obtain ⟨ρ, ws, h, S, sl, fin⟩ := x
  refine ⟨ρ, ws, h, S, sl, (bndS_reads (R := RelW g) sl fin).mono fun v H1 ⟨ρ1, h1, w, X1, S1, r1, f1⟩ => ?_⟩
  have sl1 := sl.ext X1
  refine ⟨ρ1, ws, h1, S1, sl1, (bndS_reads (R := RelW g) sl1 f1).mono fun o H2 ⟨ρ2, h2, wo, X2, S2, r2, f2⟩ => ?_⟩
  have sl2 := sl1.ext X2
  refine ⟨ρ2, ws, h2, S2, sl2, (bndS_reads (R := RelW g) sl2 f2).mono fun i H3 ⟨ρ3, h3, wi, X3, S3, r3, f3⟩ => ?_⟩
  have sl3 := sl2.ext X3
  have rv := (r1.ext X2).ext X3
  have ro := r2.ext X3
  cases wo with
  | ref k =>
    cases wi with
    | int i' =>
      dsimp only at f3
      cases e : h3.get k with
      | none => simp only [e] at f3; exact f3.elim
      | some ob =>
        cases ob with
        | dic t kvs => simp only [e] at f3; exact f3.elim
        | ldc t kvs => simp only [e] at f3; exact f3.elim
        | ins c fs => simp only [e] at f3; exact f3.elim
        | lst xs =>
          simp only [e] at f3
          cases ej : ixN xs.length i' with
          | none => simp only [ej] at f3; exact f3.elim
          | some j =>
            simp only [ej] at f3
            simp only [RelW] at ro r3
            obtain ⟨_, rfl⟩ := ro
            subst r3
            obtain ⟨_, us, e3, rr⟩ := S3.atl e
            refine ⟨_, us, i', j, rfl, rfl, e3, by rw [rr.len]; exact ej, ?_⟩
            have E := Ext.set (us := us.set j v) S3 e
            exact f3 ρ3 _ σ E (Sim.set S3 e (RelWs.set j rv rr)) (sl3.ext E)
    | _ => exact f3.elim
  | _ => exact f3.elim
theorem ms_setIx {o i : Expr} {p1 : Pos} {m mo mi : Dn W} (he : PE X e (tE g Wx m)) (ho : PE X o (tE g Wx mo)) (hi : PE X i (tE g Wx mi)) (hs : swapsWithSole [.Subscript o i p1] e pos.line X.env = pure false := by rfl) (hw : swappedStores [.Subscript o i p1] e X.env = pure none := by rfl)
    (h1 : (assignEach [.Subscript o i p1] X.env).map (·.2) = [assign (.Subscript o i p1) X.env] := by rfl)
    (ha : ∀ v, assign (.Subscript o i p1) X.env v = (do
      let ov ← holding [v] (eval o X.env)
      let iv ← holding [v, ov] (eval i X.env)
      standAt p1
      holding [v, ov, iv] (setItem ov iv v)
      release [v, ov, iv] []) := by intro _; rfl) : PS X (.Assign [.Subscript o i p1] e pos) (tS g Wx (dSetIx m mo mi)) :=
  weakS (ps_asg he (pg_sub ho hi set_list ha) hs hw h1) fun _ _ _ q => setIx_reads q

/-! ### or, by truth -/
def truW (w : W) (h : MH) : Option Bool := match w with
  | .non => some false
  | .bl b => some b
  | .int i => some (i != 0)
  | w => (items w h).map fun xs => !xs.isEmpty
theorem truW_ok {ρ h H} {w : W} {v : V} {k : Bool} (S : Sim g ρ h H) (r : RelW g ρ h.n H w v) (e : truW w h = some k) : TruV g.K v H k := by
  have seq : (items w h).map (fun xs => !xs.isEmpty) = some k → TruV g.K v H k := by
    intro e
    obtain ⟨xs, e1, e2⟩ := Option.map_eq_some_iff.mp e
    obtain ⟨a, vs, rfl, hs, rr⟩ := items_ok S r e1
    have : (!vs.isEmpty) = k := by
      rw [← e2]
      have l := rr.len
      cases xs with
      | nil => cases vs with
        | nil => rfl
        | cons _ _ => cases l
      | cons _ _ => cases vs with
        | nil => cases l
        | cons _ _ => rfl
    rcases hs with hs | hs
    · exact .inl ⟨vs, hs, this.symm⟩
    · exact .inr (.inl ⟨vs, hs, this.symm⟩)
  cases w with
  | non => simp only [truW] at e; injection e with e; simp only [RelW] at r; subst e; subst r; rfl
  | bl b => simp only [truW] at e; injection e with e; simp only [RelW] at r; subst e; subst r; rfl
  | int b => simp only [truW] at e; injection e with e; simp only [RelW] at r; subst e; subst r; rfl
  | _ => exact seq e
def dOrT (a b : Dn W) : Dn W := fun ws h => (a ws h).bnd fun x h1 => match truW x h1 with
  | some true => .ok x h1
  | some false => b ws h1
  | none => .stuck
theorem m_orT (hK : X.K = g.K) {rest : List Expr} {ma mb : Dn W} (ha : PE X a (tE g Wx ma)) (hb : PE X (.BoolOp .Or (b :: rest) pos) (tE g Wx mb)) : PE X (.BoolOp .Or (a :: b :: rest) pos) (tE g Wx (dOrT ma mb)) :=
  weak (pe_orT ha hb) fun σ H Q q => by
    obtain ⟨ρ, ws, h, S, sl, fin⟩ := q
    refine ⟨ρ, ws, h, S, sl, (Fin.bnd (R := RelW g) fin).mono fun v H1 ⟨ρ1, h1, w, X1, S1, r1, f1⟩ => ?_⟩
    cases e : truW w h1 with
    | none => simp only [e] at f1; exact f1.elim
    | some k =>
      simp only [e] at f1
      refine ⟨k, by rw [hK]; exact truW_ok S1 r1 e, ?_⟩
      cases k with
      | true => rw [if_pos rfl]; exact f1.here S1 r1
      | false => rw [if_neg Bool.false_ne_true]; exact ⟨ρ1, ws, h1, S1, sl.ext X1, f1⟩

/-! ### raise C() -/
/-- X() of an own class without __init__ -/
theorem pmk_own0 {C : Addr} {bmB : List Value} {B newId initId : String} {x : Str} {p : Pos} (F : ExcBaseFacts B newId initId bmB) (q : PySem.W.excIn X.K C bmB newId = true) (gC : X.mg x = some (.ref C)) (kC : PySem.W.keepIn X.K (.ref C) = true) (r : Raises X (.ref C)) (hg : Gl X x)
    (hdb : (x == ("__debug__" : Str)) = false := by decide) : PMk X (.Call (.Name x p) [] [] pos) (fun _ H Q => Q (.ref C) none H) := by
  intro pins s σ H Q I h
  refine wpAny_Call_Name_kw (ld_glob I hg gC ?_ hdb)
  refine PySem.W.callWith_K0 I.kIn kC ?_
  show wpAny _ _ (call (.ref C) []) _ _ _
  obtain ⟨bm, N, nm, qn, bs, hdct, sn, sub, ab, col, dd, k0, k1, k2, k3, k5, mN, hC, hN, hni, T⟩ := exc_obj I.kIn q
  exact wpAny_call_exc_subT F T hC hN hni (fun h' e hm => mk_of I hm r h (I.hok.gone hm.new)) (by show 0 ≤ sizeLine; omega)
def dRaise0 (c : Nat) : DS := fun ws h => .exc ws c [] h
theorem ms_raise0 {k : Nat} {bmB : List Value} {B newId initId : String} {x : Str} {p p' : Pos} (hc : X.calm = true) (tk : Takes X Wx) (F : ExcBaseFacts B newId initId bmB) (q : PySem.W.excIn X.K (g.cad k) bmB newId = true) (gC : X.mg x = some (.ref (g.cad k))) (kC : PySem.W.keepIn X.K (.ref (g.cad k)) = true) (r : Raises X (.ref (g.cad k))) (hg : Gl X x)
    (hdb : (x == ("__debug__" : Str)) = false := by decide) : PS X (.Raise (some (.Call (.Name x p) [] [] p')) none pos) (tS g Wx (dRaise0 k)) :=
  weakS (ps_raise hc tk (pmk_own0 F q gC kC r hg hdb)) fun D σ H ⟨ρ, ws, h, S, sl, fin⟩ => fin ρ H σ _ none S.refl S sl ⟨rfl, fun _ => rfl, fun f w e => by cases e⟩

/-! ### defs -/
def mFun (np nl : Nat) (body : DS) : List W → MH → Res W := fun args h => match Nat.beq args.length np with
  | false => .stuck
  | true => (match body (args.map some ++ List.replicate nl none) h with
    | .rt w h' => .ok w h'
    | .nx _ h' => .ok .non h'
    | .exc _ c fs h' => .exc c fs h'
    | _ => .stuck)
theorem sl_start {ρ n H} {N : List Str} {args : List W} {vs : List V} (r : RelWs g ρ n H args vs) (nl : Nat) (hl : N.length - vs.length = nl) : Sl g ρ n H (args.map some ++ List.replicate nl none) (L2.start N vs) := by
  unfold L2.start
  rw [hl]
  refine ⟨by simp [r.len], fun i w e => ?_⟩
  by_cases hi : i < args.length
  · rw [List.getElem?_append_left (by simpa using hi)] at e
    rw [List.getElem?_append_left (by simpa [r.len] using hi)]
    rw [List.getElem?_map] at e
    cases q : args[i]? with
    | none => rw [q] at e; cases e
    | some w' =>
      rw [q] at e
      have e' : w' = w := Option.some.inj (Option.some.inj e)
      subst e'
      obtain ⟨v, e1, e2⟩ := r.get q
      exact ⟨v, by rw [List.getElem?_map, e1]; rfl, e2⟩
  · rw [List.getElem?_append_right (by simpa using Nat.not_lt.mp hi)] at e
    rw [List.getElem?_replicate] at e
    split at e <;> cases e
section
variable {P : Program} {w : World} {K : PySem.W.Frag} {mg : Str → Option Value} {base : Heap}
theorem fun_ok {x qual : Str} {st : Stmt} {f : Addr} {fd : FuncData} {N ps : List Str} {k : Nat} {body : DS} (F : L2.Fun K x qual st f fd) (S : FnScope N ps (defScope st)) (np nl : Nat) (hnp : ps.length = np) (hnl : N.length - np = nl)
    (hbody : ∀ (cdv : Value) (A : Around) (outer : List Env) (s : Shared) (H : Hp) (E : XK), Room k (A.deeper (envOfC qual (defScope st) s.heap.objs.size f cdv)) →
      PSs (cxOf (L2.CX P w) P w K mg base N qual (defScope st) f cdv A outer s H E) (defBody st) (tS g (fun cls d _ H' => E cls d H') body)) :
    FnOk P w K mg base (L2.CX P w) (k + 1) f fd ps (spM g (mFun np nl body) np) := by
  refine F.okX S (fun vs H Q E h => by rw [h.1, hnp]) fun cdv A outer s H vs Q E hr hsp => ⟨_, hbody cdv A outer s H E hr, ?_⟩
  obtain ⟨hl, ρ, ws, h, Sm, r, fin⟩ := hsp
  unfold mFun at fin
  cases q : Nat.beq ws.length np with
  | false => rw [q] at fin; exact fin.elim
  | true =>
    rw [q] at fin
    refine ⟨ρ, _, h, Sm, sl_start r nl (by rw [hl]; exact hnl), ?_⟩
    dsimp only at fin
    cases z : body (ws.map some ++ List.replicate nl none) h with
    | rt w h' => rw [z] at fin; exact fun ρ' H' v X s r => fin ρ' H' v X s r
    | nx ws' h' => rw [z] at fin; exact fun ρ' H' σ' X s sl => fin ρ' H' .non X s (by simp only [RelW])
    | exc ws' c fs h' => rw [z] at fin; exact fun ρ' H' σ' cls d X s sl r => fin ρ' H' cls d X s r
    | bk ws' h' => rw [z] at fin; exact fin.elim
    | ct ws' h' => rw [z] at fin; exact fin.elim
    | stuck => rw [z] at fin; exact fin.elim
end

/-! ### defs as values, called -/
/-- the table of defs: what number k is worth, at which level -/
structure TabOk (g : Gd) (P : Program) (w : World) (mg : Str → Option Value) (base : Heap) (lv : Nat) (tab : Nat → Option (Nat × (List W → MH → Res W))) : Prop where
  ok : ∀ k np m, tab k = some (np, m) → ∃ (fd : FuncData) (ps : List Str), FnOk P w g.K mg base (L2.CX P w) lv (g.fad k) fd ps (spM g m np) ∧ PySem.W.keepIn g.K (.ref (g.fad k)) = true ∧ Binds g.K fd ps []
def dCallV (tab : Nat → Option (Nat × (List W → MH → Res W))) (mf : Dn W) (ra : Dn (List W)) : Dn W := fun ws h => (mf ws h).bnd fun v h1 => match v with
  | .fn k => (match tab k with
    | some (np, m) => (ra ws h1).bnd (chkN np m)
    | none => .stuck)
  | _ => .stuck
theorem m_callV {lv : Nat} {tab : Nat → Option (Nat × (List W → MH → Res W))} {f : Expr} {es : List Expr} {mf : Dn W} {ra : Dn (List W)} (hK : X.K = g.K) (T : TabOk g X.prog X.w X.mg X.base lv tab) (hr : Room lv X.A) (tk : Takes X Wx) (hf : PE X f (tE g Wx mf)) (ha : PA X (e :: es) (tA g Wx ra))
    (arm : eval (.Call f (e :: es) [] pos) X.env = (do callWith pos (← eval f X.env) [] (backTo pos (starEach (e :: es) X.env)) (backToKw pos (keywordEach [] X.env))))
    (he : starEach (e :: es) X.env = (false, eval e X.env) :: starEach es X.env := by rfl) (hpl : (backTo pos (starEach es X.env)).any (·.1) = false := by rfl) : PE X (.Call f (e :: es) [] pos) (tE g Wx (dCallV tab mf ra)) := by
  refine ⟨fun pins s σ H Q I q => ?_⟩
  obtain ⟨ρ, ws, h, S, sl, fin⟩ := q
  rw [arm]
  refine wpAny_bind (thn (hf.run pins s σ H _ I ⟨ρ, ws, h, S, sl, Fin.bnd (R := RelW g) fin⟩) fun u s1 ⟨v, H1, I1, r1, ρ1, h1, w, X1, S1, rw1, f1⟩ => ?_)
  cases w <;> first | exact f1.elim | skip
  rename_i k
  simp only [RelW] at rw1
  subst rw1
  cases r1
  cases e1 : tab k with
  | none => simp only [e1] at f1; exact f1.elim
  | some nm =>
    obtain ⟨np, m⟩ := nm
    simp only [e1] at f1
    obtain ⟨fd, ps, F, hk, hb⟩ := T.ok k np m e1
    rw [← hK] at F hk hb
    refine PySem.W.callWith_K (h₀ := X.base) I1.ok.mod.kin hk (thn (ha.run pos pins s1 σ H1 _ I1 ⟨ρ1, ws, h1, S1, sl.ext X1, Fin.bnd (R := RelWs g) f1⟩) fun us s2 ⟨vs, H2, I2, r2, ρ2, h2, xs, X2, S2, rr, f2⟩ => ⟨I2.kIn, ?_⟩) he hpl
    refine run_fnS (E := WE Wx) F hr hb (passAt tk σ) I2 r2 ?_
    unfold chkN at f2
    cases e2 : Nat.beq xs.length np with
    | false => rw [e2] at f2; exact f2.elim
    | true =>
      rw [e2] at f2
      exact ⟨by rw [rr.len]; exact Nat.eq_of_beq_eq_true e2, ρ2, xs, h2, S2, rr, f2⟩
end
end M

set_option Elab.async false
set_option linter.all false
set_option maxRecDepth 100000
set_option maxHeartbeats 4000000
namespace M
open PySem PySem.Spec PyProof.Rows L2
/-! ### try .. except A as a .. except B as b .. -/
abbrev HdT := Value × Nat × (Addr → Value → Option Addr → TS)
def unset (i : Nat) (D : Ends) : Ends := { nx := fun σ' H' => D.nx (σ'.set i none) H', rt := D.rt, bk := fun σ' H' => D.bk (σ'.set i none) H', ct := fun σ' H' => D.ct (σ'.set i none) H' }
def wManyAs (K : PySem.W.Frag) (Wout : WX) (D : Ends) : List HdT → WX
  | [] => Wout
  | (c, i, ts) :: r => fun cls d σ H => ∃ b, PySem.W.exmOne K cls c = some b ∧ (b = true → ∀ a, H a = none → ts a cls d (unset i D) (σ.set i (some (.ref a))) H) ∧ (b = false → wManyAs K Wout D r cls d σ H)
inductive HdsAs (X : Cx) : List ExceptHandler → List HdT → Prop
  | nil : HdsAs X [] []
  | cons {x n : Str} {c : Value} {i : Nat} {ts : Addr → Value → Option Addr → TS} {b₀ : Stmt} {suite : List Stmt} {np pos' : Pos} {hds : List ExceptHandler} {l : List HdT} (hN : X.N.Nodup) (hi : X.N[i]? = some n) (hln : X.env.kindOf n = some .local) (hc : Names X x c)
      (hsu : ∀ (a : Addr) (oe : Obj) (cls : Value) (d : Option Addr) (pn : List (Addr × Obj)), Zc cls d oe → (∃ vs, oe.data = .fields vs) → PSs (X.suite a ((a, oe) :: pn)) (b₀ :: suite) (ts a cls d)) (r : HdsAs X hds l) :
      HdsAs X (.ExceptHandler (some (.Name x np)) (some n) (b₀ :: suite) pos' :: hds) ((c, i, ts) :: l)
/-! ### an error that has come to this frame -/
/-- the error at p, of the class cls, its own dict d, has come to rest in t; before it H stood -/
structure Air (X : Cx) (pins : List (Addr × Obj)) (p : Addr) (cls : Value) (d : Option Addr) (σ : L2.St) (H : Hp) (t : Shared) : Prop where
  ex : ∃ (B : Heap) (t0 : Shared), Inv X pins σ H t0 ∧ (∀ x o, t0.heap.get? x = some o → x ∉ frs X.stack → B.get? x = some o) ∧ t0.heap.UpToSlots t.heap ∧
    HandSPX.FlyingZ B (X.env :: X.outer) p (Zc cls d) t.heap ∧ t.os = t0.os ∧ AllBare t.gens
  no : H p = none
section
variable {X : Cx} {pins : List (Addr × Obj)} {p : Addr} {cls : Value} {d : Option Addr} {σ : L2.St} {H : Hp} {t : Shared}
theorem Air.inv (x : Air X pins p cls d σ H t) : Inv X pins σ H t := by
  obtain ⟨B, t0, i0, n0, u0, f0, o0, g0⟩ := x.ex
  exact i0.landed n0 f0.1 u0 o0 g0
theorem Air.obj (x : Air X pins p cls d σ H t) : ∃ o us, t.heap.get? p = some o ∧ Zc cls d o ∧ o.data = .fields us := by
  obtain ⟨B, t0, _, _, _, f0, _, _⟩ := x.ex
  obtain ⟨o, us, a1, a2, a3⟩ := f0.there
  exact ⟨o, us, a1, a2, a3⟩
/-- no frame's own object -/
theorem Air.apart (x : Air X pins p cls d σ H t) : p ∉ frs (X.env :: X.outer) := fun hm => by
  obtain ⟨B, t0, _, _, _, f0, _, _⟩ := x.ex
  obtain ⟨o, us, a1, _, a3⟩ := f0.there
  obtain ⟨_, o2, a4, a5⟩ := f0.2.2.1.mem hm
  rw [a1] at a4
  cases a4
  exact a5 _ a3
theorem Air.loc (x : Air X pins p cls d σ H t) (hf : X.env.frame = some X.env.locals) : p ≠ X.env.locals := fun z =>
  x.apart (List.mem_filterMap.mpr ⟨X.env, .head _, by rw [hf, z]⟩)
theorem Air.fs (x : Air X pins p cls d σ H t) : p ∉ X.fs := fun hm =>
  let ⟨v, hv, z⟩ := List.mem_filterMap.mp hm
  x.apart (List.mem_filterMap.mpr ⟨v, .tail _ hv, z⟩)
/-- it rests again -/
theorem Air.rest {Q : Unit → Shared → Prop} {E : Value → Shared → Prop} {M : Model} {A : Around} (x : Air X pins p cls d σ H t) (k : ∀ h', Air X pins p cls d σ H { t with heap := h' } → Q () { t with heap := h' }) :
    wpAny M A (setFlight (.ref p) none) Q E t := by
  obtain ⟨B, t0, i0, n0, u0, f0, o0, g0⟩ := x.ex
  exact HandSPX.lands_againZ f0 fun h' f1 u1 => k h' ⟨⟨B, t0, i0, n0, u0.trans u1, f1, o0, g0⟩, x.no⟩
/-- it goes on: no clause is its own -/
theorem Air.pass {W : WX} {D : Ends} (x : Air X pins p cls d σ H t) (hs : X.stack = X.env :: X.outer) (hf : X.env.frame = some X.env.locals) (tk : Takes X W) (w : W cls d σ H) :
    wpAny (model X.prog X.w) X.A (handleBy (.ref p) X.env []) (SP X pins D) X.xe t := by
  obtain ⟨B, t0, i0, n0, u0, f0, o0, g0⟩ := x.ex
  have up : wpAny (model X.prog X.w) X.A (setFlight (.ref p) X.env.frame) (fun _ t4 => wpAny (model X.prog X.w) X.A (throw (.ref p) : Sem Flow) (SP X pins D) X.xe t4) X.xe t := by
    rw [hf]
    refine HandSPX.setFlight_upZ f0 fun h4 f4 u4 => wpAny_throw (tk (.ref p) _ ?_)
    refine ⟨p, B, t0, pins, σ, H, cls, d, rfl, i0, n0, u0.trans u4, ?_, x.no, o0, g0, w⟩
    rw [hs]
    exact .inr (.inr f4)
  refine wpAny_handleBy_nil ?_
  obtain ⟨_, _, _, o, us, T, _, _, a1, _, a3, a4, _⟩ := id f0
  unfold PySem.passOn
  refine wpAny_bind (wpAny_field a1 a3 a4 ?_)
  have hT : ¬ ((Value.ref T == Value.none) = true) := by simp
  rw [if_neg hT]
  first
    | exact wpAny_bind up
    | exact wpAny_bind (wpAny_pure (wpAny_bind up))
end
section
variable {X : Cx} {pins : List (Addr × Obj)} {p : Addr} {cls : Value} {d : Option Addr} {σ : L2.St} {H : Hp}
/-- the clauses, one after the other -/
theorem clauses {W : WX} {D : Ends} (ok : X.Ok) (hs : X.stack = X.env :: X.outer) (hf : X.env.frame = some X.env.locals) (tk : Takes X W) {hds : List ExceptHandler} {l : List HdT} (hh : HdsAs X hds l) :
    ∀ t : Shared, Air X pins p cls d σ H t → wManyAs X.K W D l cls d σ H → wpAny (model X.prog X.w) X.A (handleBy (.ref p) X.env hds) (SP X pins D) X.xe t := by
  induction hh with
  | nil => exact fun t x w => x.pass hs hf tk w
  | @cons C n c i ts b₀ suite np q hds l hN hi hl hc hsu rest ih =>
    intro t x w
    obtain ⟨k, e1, yes, no⟩ := w
    obtain ⟨oe, us, a1, a2, a3⟩ := x.obj
    -- the test: the class is named, the answer is k
    have I1 : Inv (X.suite p ((p, oe) :: (X.pn ++ pins))) [] σ H t := x.inv.suite a1 a3 x.no (x.loc hf) x.fs
    have ans : PySem.W.Looks (model X.prog X.w) t.heap (typeOf (.ref p)) cls := fun A Q E s keep z => wpAny_typeOf_ref (keep _ _ a1) (by rw [a2.1]; exact z)
    refine wpAny_handleBy_cons (codeAny_handlers_test ?_) (fun z => nomatch z)
    have named : ∀ {Q : Value → Shared → Prop} {E : Value → Shared → Prop}, Q c t → wpAny (model X.prog X.w) (X.A.mark (some (.ref p))) (eval (.Name C np) X.env) Q E t := by
      intro Q E z
      rcases hc with ⟨g1, g2, g3 | ⟨g3, g4, g5⟩⟩
      · exact ld_glob I1 g1 g3 z g2
      · exact ld_blt I1 g1 g3 g4 z g5 g2
    refine named ((PySem.W.exm_one (M := model X.prog X.w) x.inv.kIn ans e1).here ?_)
    cases k with
    | false => exact ih t x (no rfl)
    | true =>
      refine codeAny_handlers_suite_as (x.rest fun h4 x4 => ?_)
      obtain ⟨o4, u4, b1, b2, b3⟩ := x4.obj
      have I4 : Inv (X.suite p ((p, o4) :: (X.pn ++ pins))) [] σ H { t with heap := h4 } := x4.inv.suite b1 b3 x4.no (x4.loc hf) x4.fs
      refine store_ok (X := X.suite p ((p, o4) :: (X.pn ++ pins))) (v := .ref p) I4 hN hi (.inl hl) rfl (fun t5 I5 => ?_) (.inr hl)
      -- behind the suite its name goes
      have goes : ∀ {σ6 : L2.St} {H6 : Hp} {t6 : Shared} {Q : Shared → Prop}, Inv (X.suite p ((p, o4) :: (X.pn ++ pins))) [] σ6 H6 t6 → (∀ t7, Inv X pins (σ6.set i none) H6 t7 → Q t7) →
          wpAny (model X.prog X.w) X.A (do bindName X.env n .none; unbindBehindTheSuite X.env n q) (fun _ t7 => Q t7) X.xe t6 := fun I6 z => gone_ok (I6.unsuite ok) hN hi hl z
      refine wpAny_mono ((hsu p o4 cls d (X.pn ++ pins) b2 ⟨_, b3⟩).run [] t5 _ H _ I5 (yes rfl p x.no)) (fun f t6 z => ?_) (fun _ _ z => z.elim)
      cases f with
      | ret v => exact let ⟨v6, s6, H6, I6, r6, q6⟩ := z; goes I6 fun t7 I7 => ⟨v6, s6.set i none, H6, I7, r6, q6⟩
      | next => exact let ⟨s6, H6, I6, q6⟩ := z; goes I6 fun t7 I7 => ⟨s6.set i none, H6, I7, q6⟩
      | brk => exact let ⟨s6, H6, I6, q6⟩ := z; goes I6 fun t7 I7 => ⟨s6.set i none, H6, I7, q6⟩
      | cont => exact let ⟨s6, H6, I6, q6⟩ := z; goes I6 fun t7 I7 => ⟨s6.set i none, H6, I7, q6⟩
variable {body : List Stmt} {h₀ : ExceptHandler} {hds : List ExceptHandler} {l : List HdT} {pos : Pos} {tb : WX → TS} {Wout : WX}
theorem ps_try_manyAs (hs : X.stack = X.env :: X.outer) (hf : X.env.frame = some X.env.locals) (tk : Takes X Wout)
    (hb : ∀ (W : WX) (pn : List (Addr × Obj)) (xe : Value → Shared → Prop), Takes (X.tr pn xe) W → PassesOwn (model X.prog X.w) X.A X.env xe → PSs (X.tr pn xe) body (tb W)) (hh : HdsAs X (h₀ :: hds) l) :
    PS X (.Try body (h₀ :: hds) [] [] pos) (fun D σ H => tb (wManyAs X.K Wout D l) D σ H) := ⟨fun pins s σ H D I h => by
  have fr : X.A.frames = some (X.env :: X.outer) := I.ok.frames.trans (congrArg some hs)
  let catch_ : Value → Shared → Prop := fun u t1 => wpAny (model X.prog X.w) X.A (noteFrame u X.env) (fun _ t2 => wpAny (model X.prog X.w) X.A (setFlight u none)
    (fun _ t3 => wpAny (model X.prog X.w) X.A (handleBy u X.env (h₀ :: hds)) (SP X pins D) X.xe t3) X.xe t2) X.xe t1
  have takes : Takes (X.tr (X.pn ++ pins) catch_) (wManyAs X.K Wout D l) := by
    rintro _ t1 ⟨p, B, t0, pins', σ1, H1, cls, d, rfl, I1, n1, u1, sky, na, os, ag, w⟩
    refine Sky.land (L := X.env.locals) Zc.steady fr hf (by rw [← hs]; exact sky) fun h3 f3 u3 => ?_
    exact clauses I.ok hs hf tk hh _ ⟨⟨B, t0, I1.ofTry I.ok, n1, u1.trans u3, f3, os, ag⟩, na⟩ w
  refine wpAny_Try_except (wpAny_mono ((hb _ _ catch_ takes PassesOwn.looking).run [] s σ H D (I.toTry _) h) (fun f t1 z => ?_) fun _ _ z => z)
  cases f with
  | ret v => exact let ⟨v1, s1, H1, I1, r1, q1⟩ := z; ⟨v1, s1, H1, I1.ofTry I.ok, r1, q1⟩
  | next => exact let ⟨s1, H1, I1, q1⟩ := z; wpAny_execs_nil ⟨s1, H1, I1.ofTry I.ok, q1⟩
  | brk => exact let ⟨s1, H1, I1, q1⟩ := z; ⟨s1, H1, I1.ofTry I.ok, q1⟩
  | cont => exact let ⟨s1, H1, I1, q1⟩ := z; ⟨s1, H1, I1.ofTry I.ok, q1⟩⟩
end

/-! ### in the small heap -/
abbrev Hd := Nat × Nat × (List (Str × W) → DS)
def unsetR (i : Nat) : SR → SR
  | .nx ws h => .nx (ws.set i none) h
  | .bk ws h => .bk (ws.set i none) h
  | .ct ws h => .ct (ws.set i none) h
  | .rt w h => .rt w h
  | _ => .stuck
def handle (nc : Nat) (ws : WS) (c : Nat) (fs : List (Str × W)) (h : MH) : List Hd → SR
  | [] => .exc ws c fs h
  | (k, i, su) :: r => match Nat.blt c nc, Nat.beq c k with
    | true, true => (match Nat.blt i ws.length with | true => unsetR i (su fs (ws.set i none) h) | false => .stuck)
    | true, false => handle nc ws c fs h r
    | _, _ => .stuck
def dTry (nc : Nat) (body : DS) (hs : List Hd) : DS := fun ws h => match body ws h with
  | .exc ws' c fs h' => handle nc ws' c fs h' hs
  | r => r
section
variable {g : Gd} {X : Cx} {Wx : WX} {e a b c : Expr} {pos : Pos} {tg : Expr}
/-- the suite of «except C as n», the class number k, n's slot i -/
def tSu (g : Gd) (k i : Nat) (su : List (Str × W) → DS) : Addr → Value → Option Addr → TS := fun a cls d D σ H =>
  ∃ ρ ws h fs, Sim g ρ h H ∧ Sl g ρ h.n H ws (σ.set i none) ∧ σ[i]? = some (some (.ref a)) ∧ H a = none ∧ RelX g ρ h.n H k fs cls d ∧ FinS g ρ h H D W0 (su fs ws h)
def dHd (g : Gd) : Hd → HdT := fun (k, i, su) => (.ref (g.cad k), i, tSu g k i su)
theorem unset_fin {ρ h H} {D : Ends} {i : Nat} {r : SR} (f : FinS g ρ h H D Wx (unsetR i r)) : FinS g ρ h H (unset i D) W0 r := by
  cases r with
  | nx ws h' => exact fun ρ' H' σ' X s sl => f ρ' H' _ X s sl.unset
  | bk ws h' => exact fun ρ' H' σ' X s sl => f ρ' H' _ X s sl.unset
  | ct ws h' => exact fun ρ' H' σ' X s sl => f ρ' H' _ X s sl.unset
  | rt w h' => exact fun ρ' H' v X s r => f ρ' H' v X s r
  | exc ws c fs h' => exact f.elim
  | stuck => exact f.elim
theorem hd_wish {nc : Nat} (hx : ∀ c k, c < nc → k < nc → PySem.W.exmOne g.K (.ref (g.cad c)) (.ref (g.cad k)) = some (Nat.beq c k)) {D : Ends} {ρ h H} {ws : WS} {σ : L2.St} {c : Nat} {fs : List (Str × W)} {cls : Value} {d : Option Addr}
    (S : Sim g ρ h H) (sl : Sl g ρ h.n H ws σ) (rx : RelX g ρ h.n H c fs cls d) : ∀ (hs : List Hd), (∀ p ∈ hs, p.1 < nc) → FinS g ρ h H D Wx (handle nc ws c fs h hs) → wManyAs g.K Wx D (hs.map (dHd g)) cls d σ H
  | [], _, fin => fin ρ H σ cls d S.refl S sl rx
  | (k, i, su) :: r, hb, fin => by
    unfold handle at fin
    cases e1 : Nat.blt c nc with
    | false => simp only [e1] at fin; exact fin.elim
    | true =>
      have hk := hb (k, i, su) List.mem_cons_self
      have hc : c < nc := blt_ok e1
      refine ⟨Nat.beq c k, by rw [rx.1]; exact hx c k hc hk, fun e2 a na => ?_, fun e2 => ?_⟩
      · simp only [e1, e2] at fin
        have ek : c = k := Nat.eq_of_beq_eq_true e2
        subst ek
        cases e3 : Nat.blt i ws.length with
        | false => simp only [e3] at fin; exact fin.elim
        | true =>
        simp only [e3] at fin
        refine ⟨ρ, ws.set i none, h, fs, S, ?_, ?_, na, rx, unset_fin fin⟩
        · rw [List.set_set]; exact sl.unset
        · rw [List.getElem?_set_self (by rw [← sl.1]; exact blt_ok e3)]
      · simp only [e1, e2] at fin
        exact hd_wish hx S sl rx r (fun p hp => hb p (List.mem_cons_of_mem _ hp)) fin
theorem ms_try {nc : Nat} {body : List Stmt} {h₀ : ExceptHandler} {hds : List ExceptHandler} {mb : DS} {hs : List Hd} (hK : X.K = g.K) (hx : ∀ c k, c < nc → k < nc → PySem.W.exmOne g.K (.ref (g.cad c)) (.ref (g.cad k)) = some (Nat.beq c k)) (hst : X.stack = X.env :: X.outer) (hf : X.env.frame = some X.env.locals) (tk : Takes X Wx)
    (hb : ∀ (W : WX) (pn : List (Addr × Obj)) (xe : Value → Shared → Prop), Takes (X.tr pn xe) W → PassesOwn (model X.prog X.w) X.A X.env xe → PSs (X.tr pn xe) body (tS g W mb))
    (hh : HdsAs X (h₀ :: hds) (hs.map (dHd g))) (hlen : ∀ p ∈ hs, p.1 < nc) : PS X (.Try body (h₀ :: hds) [] [] pos) (tS g Wx (dTry nc mb hs)) := by
  refine ⟨fun pins s σ H D I q => (ps_try_manyAs (tb := fun W => tS g W mb) hst hf tk hb hh).run pins s σ H D I ?_⟩
  obtain ⟨ρ, ws, h, S, sl, fin⟩ := q
  refine ⟨ρ, ws, h, S, sl, ?_⟩
  unfold dTry at fin
  cases e : mb ws h with
  | exc ws' c fs h' =>
    rw [e] at fin
    intro ρ' H' σ' cls d X' S' sl' rx
    rw [hK]
    exact hd_wish hx S' sl' rx hs hlen (FinS.later X' fin)
  | nx ws' h' => rw [e] at fin; exact fin
  | rt w h' => rw [e] at fin; exact fin
  | bk ws' h' => rw [e] at fin; exact fin
  | ct ws' h' => rw [e] at fin; exact fin
  | stuck => rw [e] at fin; exact fin

/-! ### the suites' own words -/
/-- a reading with a slot known -/
def tC1 (C : L2.St → Prop) (t : TE) : TE := fun σ H Q => C σ ∧ t σ H Q
def tC1A (C : L2.St → Prop) (t : TA) : TA := fun σ H Q => C σ ∧ t σ H Q
variable {C : L2.St → Prop}
theorem c_of {t : TE} (h : PE X e t) : PE X e (tC1 C t) := weak h fun _ _ _ q => q.2
theorem ca_nil : PA X [] (tC1A C (tA g Wx dNil)) := weakA ma_nil fun _ _ _ q => q.2
theorem ca_cons {es : List Expr} {m : Dn W} {r : Dn (List W)} (ha : PE X e (tC1 C (tE g Wx m))) (hr : PA X es (tC1A C (tA g Wx r))) (hs : starEach (e :: es) X.env = (false, eval e X.env) :: starEach es X.env := by rfl) : PA X (e :: es) (tC1A C (tA g Wx (dCons m r))) :=
  weakA (pa_cons ha hr hs) fun σ H Q ⟨c, q⟩ => ⟨c, by
    obtain ⟨ρ, ws, h, S, sl, fin⟩ := two_reads (R1 := RelW g) (R2 := RelWs g) (R3 := RelWs g) (G := fun vx vy H => Q (vx :: vy) H) (fun X q => q.ext X) q fun ρ h H x y vx vy S r1 r2 f => f.here S (.cons r1 r2)
    exact ⟨ρ, ws, h, S, sl, fin.mono fun b H' z => ⟨c, z⟩⟩⟩
theorem c_lst {es : List Expr} {r : Dn (List W)} (ha : PA X es (tC1A C (tA g Wx r))) : PE X (.List es pos) (tC1 C (tE g Wx (dOne fLst r))) :=
  weak (pe_lst ha) fun σ H Q ⟨c, q⟩ => ⟨c, one_reads (R1 := RelWs g) q fun ρ h H x vx S r f => by
    unfold fLst at f
    cases e : lenOk x with
    | false => rw [e] at f; exact f.elim
    | true =>
      rw [e] at f
      exact ⟨lenOk_ok e r, fun p hp => f.push S r hp⟩⟩
/-- isinstance(n, T), n the error that the suite holds -/
theorem c_isE {a D : Addr} {oe : Obj} {pn : List (Addr × Obj)} {i : Nat} {n T : Str} {Tn : String} {k : Bool} {p p1 p2 : Pos} (ex : ExcC X.K D) (hz : Zc (.ref D) none oe) (hf : ∃ vs, oe.data = .fields vs)
    (hg : Gl X "isinstance") (hm : X.mg "isinstance" = none) (hN : X.N[i]? = some n) (hv : Vis X.env.scope n) (hdn : (n == ("__debug__" : Str)) = false) (hcd : (n == ("__classdict__" : Str)) = false)
    (hgT : Gl X T) (hmT : X.mg T = none) (hvT : bootBuiltins T = some (.type Tn)) (hnT : T ≠ "__name__") (hdT : (T == ("__debug__" : Str)) = false) (hk : PySem.W.kitOne X.K (.ref D) (.type Tn) = some k) :
    PE (X.suite a ((a, oe) :: pn)) (.Call (.Name "isinstance" p) [.Name n p1, .Name T p2] [] pos) (tC1 (fun σ => σ[i]? = some (some (.ref a))) (tE g Wx (dC (.bl k)))) := by
  have ha : PA (X.suite a ((a, oe) :: pn)) [.Name n p1, .Name T p2] (tCons (tVar i) (tCons (tC (.ty Tn)) tNil)) := pa_cons (pe_var hN hv hdn hcd) (pa_cons (pe_bltn hgT hmT hvT rfl hnT hdT) pa_nil)
  refine weak (pe_callB (call_isE ex hz hf) hg hm (by decide +kernel) ha) fun σ H Q ⟨c, q⟩ => ?_
  exact ⟨_, c, .ty Tn, .type Tn, k, rfl, fun u r => r, hk, const_reads (g := g) (v := .bl k) (fun _ _ _ => by simp only [RelW]) q⟩
theorem su_ret {a D : Addr} {k i : Nat} {sts : List Stmt} {oe : Obj} {pn : List (Addr × Obj)} {m : Dn W} (hz : Zc (.ref (g.cad k)) none oe)
    (he : PE (X.suite a ((a, oe) :: pn)) e (tC1 (fun σ => σ[i]? = some (some (.ref a))) (tE g W0 m))) : PSs (X.suite a ((a, oe) :: pn)) [.Return (some e) pos] (tSu g k i (fun _ => dRet m) a (.ref (g.cad k)) none) := by
  refine pss_one ⟨fun pins s σ H D I q => (ps_ret he).run pins s σ H D I ?_⟩
  obtain ⟨ρ, ws, h, fs, S, sl, hi, na, rx, fin⟩ := q
  refine ⟨hi, ?_⟩
  have sl' : Sl g ρ h.n H ws σ := ⟨by rw [sl.1]; simp, fun j w e => by
    obtain ⟨v, e1, e2⟩ := sl.2 j w e
    refine ⟨v, ?_, e2⟩
    by_cases z : i = j
    · subst z
      by_cases l : i < σ.length
      · rw [List.getElem?_set_self l] at e1; cases e1
      · rw [List.getElem?_eq_none (by simpa using l)] at e1; cases e1
    · rw [List.getElem?_set_ne z] at e1; exact e1⟩
  exact oneS_reads (R := RelW g) (D := D) (Wx := W0) ⟨ρ, ws, h, S, sl', fin⟩ fun ρ h H x vx ws S r sl f => f.rt0 S r
end
end M

set_option Elab.async false
set_option linter.all false
set_option maxRecDepth 100000
set_option maxHeartbeats 4000000
namespace M
open PySem PySem.Spec PyProof.Rows L2
section
variable {g : Gd} {X : Cx} {Wx : WX} {e a b c : Expr} {pos : Pos} {tg : Expr}
theorem su_any {k i : Nat} {sts : List Stmt} {m : DS} {oe : Obj} {a : Addr} {cls : Value} {d : Option Addr} {pn : List (Addr × Obj)} (hz : Zc cls d oe) (h : Zc (.ref (g.cad k)) none oe → PSs (X.suite a ((a, oe) :: pn)) sts (tSu g k i (fun _ => m) a (.ref (g.cad k)) none)) :
    PSs (X.suite a ((a, oe) :: pn)) sts (tSu g k i (fun fs => match fs with | [] => m | _ => fun _ _ => .stuck) a cls d) := by
  refine ⟨fun pins s σ H D I q => ?_⟩
  obtain ⟨ρ, ws, h', fs, S, sl, hi, na, rx, fin⟩ := q
  cases fs with
  | cons _ _ => exact fin.elim
  | nil =>
    have e1 := rx.1
    have e2 := rx.2.1 rfl
    subst e1; subst e2
    exact (h hz).run pins s σ H D I ⟨ρ, ws, h', [], S, sl, hi, na, rx, fin⟩
theorem su_set {a : Addr} {k i j : Nat} {x : Str} {oe : Obj} {pn : List (Addr × Obj)} {m : Dn W} {pos' : Pos} (hN : X.N.Nodup) (hi : X.N[j]? = some x) (hx : X.env.scope.names.lookup x = some .local)
    (he : PE (X.suite a ((a, oe) :: pn)) e (tC1 (fun σ => σ[i]? = some (some (.ref a))) (tE g W0 m))) (hs : swapsWith e (some (.Name x pos')) pos.line X.env = pure false := by rfl) :
    PSs (X.suite a ((a, oe) :: pn)) [.Assign [.Name x pos'] e pos] (tSu g k i (fun _ => dAsg m (bName j)) a (.ref (g.cad k)) none) := by
  refine pss_one ⟨fun pins s σ H D I q => (ps_set (X := X.suite a ((a, oe) :: pn)) hN hi (.inl hx) he hs (.inr hx)).run pins s σ H D I ?_⟩
  obtain ⟨ρ, ws, h, fs, S, sl, hi, na, rx, fin⟩ := q
  refine ⟨hi, ?_⟩
  have sl' : Sl g ρ h.n H ws σ := ⟨by rw [sl.1]; simp, fun j w e => by
    obtain ⟨v, e1, e2⟩ := sl.2 j w e
    refine ⟨v, ?_, e2⟩
    by_cases z : i = j
    · subst z
      by_cases l : i < σ.length
      · rw [List.getElem?_set_self l] at e1; cases e1
      · rw [List.getElem?_eq_none (by simpa using l)] at e1; cases e1
    · rw [List.getElem?_set_ne z] at e1; exact e1⟩
  exact asg_reads (gs_name j) (D := D) (Wx := W0) ⟨ρ, ws, h, S, sl', fin⟩

/-! ### zip, enumerate -/
def nZip (n1 n2 : Nx) : Nx := fun i h => match n1 i h, n2 i h with
  | some (some x), some (some y) => some (some (.tup [x, y]))
  | some none, some _ => some none
  | some _, some none => some none
  | _, _ => none
theorem new_pair {ρ h H} {T : Addr} {x y : W} {vx vy : V} (S : Sim g ρ h H) (hT : H T = none) (r1 : RelW g ρ h.n H x vx) (r2 : RelW g ρ h.n H y vy) :
    Ext ρ h.n H ρ h.n (upd H T (.tup [vx, vy])) ∧ Sim g ρ h (upd H T (.tup [vx, vy])) ∧ RelW g ρ h.n (upd H T (.tup [vx, vy])) (.tup [x, y]) (.ref T) := by
  have E : Ext ρ h.n H ρ h.n (upd H T (.tup [vx, vy])) := Ext.tup S hT
  refine ⟨E, Sim.tup S hT, ?_⟩
  simp only [RelW]
  exact ⟨T, [vx, vy], rfl, upd_same, .cons (r1.ext E) (.cons (r2.ext E) .nil)⟩
/-- a list's turns -/
def nList (w : W) : Option Nx := match w with
  | .fro xs => some (nTup xs)
  | .ref k => some (nCell k)
  | _ => none
/-- what a list walked holds -/
structure LOk (g : Gd) (a : Addr) (P : (Nat → Addr) → Nat → Hp → Prop) (nx : Nx) : Prop where
  ext : ∀ {ρ n H ρ' n' H'}, Ext ρ n H ρ' n' H' → P ρ n H → P ρ' n' H'
  out2 : ∀ {ρ : Nat → Addr} {n : Nat} {H : Hp} {p : Addr} {o1 o2 : HO}, H p = some o1 → Loose o1 → (∀ i, i < n → ρ i ≠ p) → P ρ n H → P ρ n (upd H p o2)
  at_ : ∀ ρ h H i o, Sim g ρ h H → P ρ h.n H → nx i h = some o → ∃ vs, SqL g.K H a vs ∧ (match o with | some w => ∃ v, vs[i]? = some v ∧ RelW g ρ h.n H w v | none => vs.length ≤ i)
theorem lok_fro {a : Addr} {vs : List V} {xs : List W} : LOk g a (fun ρ n H => Fro g.K H a vs ∧ RelWs g ρ n H xs vs) (nTup xs) where
  ext := ok_fro.ext
  out2 := ok_fro.out2
  at_ := fun ρ h H i o S ⟨e, r⟩ q => by
    have q' : xs[i]? = o := Option.some.inj q
    refine ⟨vs, e.sql, ?_⟩
    cases o with
    | some w => exact r.get q'
    | none => exact List.getElem?_eq_none_iff.mp (r.none q')
theorem lok_cell {a : Addr} {k : Nat} : LOk g a (fun ρ n H => k < n ∧ ρ k = a) (nCell k) where
  ext := (ok_cell (g := g)).ext
  out2 := fun _ _ _ q => q
  at_ := fun ρ h H i o S ⟨e, r⟩ q => by
    obtain ⟨xs, e1, e2⟩ := nCell_some q
    obtain ⟨_, vs, e3, rr⟩ := S.atl e1
    rw [r] at e3
    refine ⟨vs, SqL.of e3, ?_⟩
    cases o with
    | some w => exact rr.get e2
    | none => exact List.getElem?_eq_none_iff.mp (rr.none e2)
theorem ok_zip {a b : Addr} {P P' : (Nat → Addr) → Nat → Hp → Prop} {n1 n2 : Nx} (A : LOk g a P n1) (B : LOk g b P' n2) : ItOk g (Itz g.K a b) (fun ρ n H => P ρ n H ∧ P' ρ n H) (nZip n1 n2) where
  ext := fun E ⟨p, p'⟩ => ⟨A.ext E p, B.ext E p'⟩
  out2 := fun hp l hr ⟨p, p'⟩ => ⟨A.out2 hp l hr p, B.out2 hp l hr p'⟩
  go := fun ρ h H i w S ⟨p, p'⟩ q => by
    unfold nZip at q
    split at q
    · rename_i x y q1 q2
      injection q with q; injection q with q
      subst q
      obtain ⟨vs, h1, v, h2, h3⟩ := A.at_ ρ h H i _ S p q1
      obtain ⟨us, k1, u, k2, k3⟩ := B.at_ ρ h H i _ S p' q2
      refine ⟨⟨vs, us, v, u, h1, k1, h2, k2⟩, fun t H' yl => ?_⟩
      obtain ⟨T, x', y', rfl, hT, rfl, y1, y2⟩ := yl
      have z1 := y1 vs h1
      have z2 := y2 us k1
      rw [h2] at z1; rw [k2] at z2
      cases z1; cases z2
      exact new_pair S hT h3 k3
    · cases q
    · cases q
    · cases q
  stop := fun ρ h H i S ⟨p, p'⟩ q => by
    unfold nZip at q
    split at q
    · cases q
    · rename_i o q1 q2
      obtain ⟨vs, h1, h2⟩ := A.at_ ρ h H i _ S p q1
      obtain ⟨us, k1, k2⟩ := B.at_ ρ h H i _ S p' q2
      exact ⟨vs, us, h1, k1, .inl h2⟩
    · rename_i o _ q1 q2
      obtain ⟨vs, h1, h2⟩ := A.at_ ρ h H i _ S p q1
      obtain ⟨us, k1, k2⟩ := B.at_ ρ h H i _ S p' q2
      exact ⟨vs, us, h1, k1, .inr k2⟩
    · cases q
theorem ok_zipT {a b : Addr} {vs us : List V} {xs ys : List W} : ItOk g (RZ.ItzT g.K a b) (fun ρ n H => (H a = some (.tup vs) ∧ RelWs g ρ n H xs vs) ∧ H b = some (.tup us) ∧ RelWs g ρ n H ys us) (nZip (nTup xs) (nTup ys)) where
  ext := fun E ⟨p, p'⟩ => ⟨ok_tup.ext E p, ok_tup.ext E p'⟩
  out2 := fun hp l hr ⟨p, p'⟩ => ⟨ok_tup.out2 hp l hr p, ok_tup.out2 hp l hr p'⟩
  go := fun ρ h H i w S ⟨⟨e, r⟩, e', r'⟩ q => by
    unfold nZip at q
    split at q
    · rename_i x y q1 q2
      injection q with q; injection q with q
      subst q
      obtain ⟨v, h2, h3⟩ := r.get (Option.some.inj q1)
      obtain ⟨u, k2, k3⟩ := r'.get (Option.some.inj q2)
      refine ⟨⟨vs, us, v, u, SqT.of e, SqT.of e', h2, k2⟩, fun t H' yl => ?_⟩
      obtain ⟨T, x', y', rfl, hT, rfl, y1, y2⟩ := yl
      have z1 := y1 vs (SqT.of e)
      have z2 := y2 us (SqT.of e')
      rw [h2] at z1; rw [k2] at z2
      cases z1; cases z2
      exact new_pair S hT h3 k3
    · cases q
    · cases q
    · cases q
  stop := fun ρ h H i S ⟨⟨e, r⟩, e', r'⟩ q => by
    unfold nZip at q
    split at q
    · cases q
    · rename_i o q1 q2
      exact ⟨vs, us, SqT.of e, SqT.of e', .inl (List.getElem?_eq_none_iff.mp (r.none (Option.some.inj q1)))⟩
    · rename_i o _ q1 q2
      exact ⟨vs, us, SqT.of e, SqT.of e', .inr (List.getElem?_eq_none_iff.mp (r'.none (Option.some.inj q2)))⟩
    · cases q
def nEnum (n1 : Nx) : Nx := fun i h => match n1 i h with
  | some (some x) => some (some (.tup [.int (i : Nat), x]))
  | some none => some none
  | none => none
theorem ok_enum {a : Addr} {P : (Nat → Addr) → Nat → Hp → Prop} {n1 : Nx} (A : LOk g a P n1) : ItOk g (Ite g.K a) P (nEnum n1) where
  ext := A.ext
  out2 := A.out2
  go := fun ρ h H i w S p q => by
    unfold nEnum at q
    split at q
    · rename_i x q1
      injection q with q; injection q with q
      subst q
      obtain ⟨vs, h1, v, h2, h3⟩ := A.at_ ρ h H i _ S p q1
      refine ⟨⟨vs, v, h1, h2⟩, fun t H' yl => ?_⟩
      obtain ⟨T, x', rfl, hT, rfl, y1⟩ := yl
      have z1 := y1 vs h1
      rw [h2] at z1
      cases z1
      exact new_pair S hT (by simp only [RelW]) h3
    · cases q
    · cases q
  stop := fun ρ h H i S p q => by
    unfold nEnum at q
    split at q
    · cases q
    · rename_i q1
      obtain ⟨vs, h1, h2⟩ := A.at_ ρ h H i _ S p q1
      exact ⟨vs, h1, h2⟩
    · cases q
theorem lok_of {ρ h H} {w : W} {v : V} {nx : Nx} (S : Sim g ρ h H) (r : RelW g ρ h.n H w v) (e : nList w = some nx) (lv : isL w h = true) : ∃ a P, v = .ref a ∧ LOk g a P nx ∧ P ρ h.n H ∧ ∃ vs, SqL g.K H a vs := by
  cases w with
  | fro xs =>
    simp only [nList] at e
    injection e with e
    subst e
    simp only [RelW] at r
    obtain ⟨a, vs, rfl, e2, e3⟩ := r
    exact ⟨a, _, rfl, lok_fro, ⟨e2, e3⟩, vs, e2.sql⟩
  | ref k =>
    simp only [nList] at e
    injection e with e
    subst e
    unfold isL at lv
    split at lv
    · rename_i xs q
      obtain ⟨a, vs, e1, e2, _⟩ := litems_ok (w := .ref k) S r q
      simp only [RelW] at r
      obtain ⟨hk, rfl⟩ := r
      exact ⟨ρ k, _, rfl, lok_cell, ⟨hk, rfl⟩, vs, by injection e1 with e1; rw [e1]; exact e2⟩
    · cases lv
  | _ => cases e
def fZip (xs : List W) (h : MH) : Res Nx := match xs with
  | [.tup x, .tup y] => .ok (nZip (nTup x) (nTup y)) h
  | [x, y] => (match nList x, nList y, isL x h, isL y h with
    | some n1, some n2, true, true => .ok (nZip n1 n2) h
    | _, _, _, _ => .stuck)
  | _ => .stuck
def fEnum (xs : List W) (h : MH) : Res Nx := match xs with
  | [x] => (match nList x, isL x h with
    | some n1, true => .ok (nEnum n1) h
    | _, _ => .stuck)
  | _ => .stuck
theorem mi_zip (hK : X.K = g.K) {e2 : Expr} {p tpos : Pos} {elts : List Expr} {kk : Nat} {m : Dn (List W)} (hg : Gl X "zip") (hm : X.mg "zip" = none) (ha : PA X [e, e2] (tA g Wx m))
    (hs : starEach [e, e2] X.env = (false, eval e X.env) :: starEach [e2] X.env := by rfl) (hpl : (backTo pos (starEach [e2] X.env)).any (·.1) = false := by rfl) :
    PI X (.Tuple elts kk tpos) (.Call (.Name "zip" p) [e, e2] [] pos) (tI g Wx (dOne fZip m)) :=
  weakI (RZ.pi_zipA hg hm ha hs hpl) fun σ H R q => oneI_reads (R := RelWs g) q fun ρ h H x vx S r f => by
    rw [hK]
    unfold fZip at f
    split at f
    · rename_i x y
      obtain ⟨v, u, rfl, r1, r2⟩ := two_of r
      simp only [RelW] at r1 r2
      obtain ⟨a, vs, rfl, e2, e3⟩ := r1
      obtain ⟨b, us, rfl, e4, e5⟩ := r2
      exact ⟨a, b, vs, us, rfl, .inr ⟨SqT.of e2, SqT.of e4, f ρ H _ S.refl S ⟨_, ok_zipT, ⟨e2, e3⟩, e4, e5⟩⟩⟩
    · rename_i x y _
      split at f
      · rename_i n1 n2 q1 q2 q3 q4
        obtain ⟨v, u, rfl, r1, r2⟩ := two_of r
        obtain ⟨a, P, rfl, A, p, vs, hv⟩ := lok_of S r1 q1 q3
        obtain ⟨b, P', rfl, B, p', us, hu⟩ := lok_of S r2 q2 q4
        exact ⟨a, b, vs, us, rfl, .inl ⟨hv, hu, f ρ H _ S.refl S ⟨_, ok_zip A B, p, p'⟩⟩⟩
      · exact f.elim
    · exact f.elim
theorem mi_enum (hK : X.K = g.K) {p tpos : Pos} {elts : List Expr} {kk : Nat} {m : Dn (List W)} (hg : Gl X "enumerate") (hm : X.mg "enumerate" = none) (ha : PA X [e] (tA g Wx m))
    (hs : starEach [e] X.env = [(false, eval e X.env)] := by rfl) :
    PI X (.Tuple elts kk tpos) (.Call (.Name "enumerate" p) [e] [] pos) (tI g Wx (dOne fEnum m)) :=
  weakI (pi_enum hg hm ha hs) fun σ H R q => oneI_reads (R := RelWs g) q fun ρ h H x vx S r f => by
    rw [hK]
    unfold fEnum at f
    split at f
    · split at f
      · rename_i n1 q1 q3
        obtain ⟨v, rfl, r1⟩ := one_of r
        obtain ⟨a, P, rfl, A, p, vs, hv⟩ := lok_of S r1 q1 q3
        exact ⟨a, vs, rfl, hv, f ρ H _ S.refl S ⟨_, ok_enum A, p⟩⟩
      · exact f.elim
    · exact f.elim

/-! ### starred items of a display -/
theorem ma_star (hK : X.K = g.K) {es : List Expr} {p : Pos} {m : Dn W} {r : Dn (List W)} (ha : PE X e (tE g Wx m)) (hr : PA X es (tA g Wx r)) (hs : starEach (.Starred e p :: es) X.env = (true, eval e X.env) :: starEach es X.env := by rfl) :
    PA X (.Starred e p :: es) (tA g Wx (fun ws h => (m ws h).bnd fun x h1 => match items x h1 with
      | some xs => (r ws h1).bnd fun ys h2 => .ok (xs ++ ys) h2
      | none => .stuck)) :=
  weakA (StX.pa_star ha hr hs) fun σ H Q q => by
    obtain ⟨ρ, ws, h, S, sl, fin⟩ := q
    refine ⟨ρ, ws, h, S, sl, (Fin.bnd (R := RelW g) fin).mono fun vx H1 ⟨ρ1, h1, wx, X1, S1, r1, f1⟩ => ?_⟩
    cases e : items wx h1 with
    | none => simp only [e] at f1; exact f1.elim
    | some xs =>
      simp only [e] at f1
      obtain ⟨a, vs, rfl, hs, rr⟩ := items_ok S1 r1 e
      refine ⟨a, vs, rfl, by rw [hK]; exact hs.symm, ρ1, ws, h1, S1, sl.ext X1, (Fin.bnd (R := RelWs g) f1).mono fun ys H2 ⟨ρ2, h2, wy, X2, S2, r2, f2⟩ => ?_⟩
      exact f2.here S2 ((rr.ext X2).append r2)
end
end M

set_option Elab.async false
set_option linter.all false
set_option maxRecDepth 100000
set_option maxHeartbeats 4000000
namespace M
open PySem PySem.Spec PyProof.Rows L2
/-! ### sorted -/
def insO {α : Type} (lt : α → α → Bool) (y : α) : List α → List α
  | [] => [y]
  | x :: r => match lt y x with
    | true => y :: x :: r
    | false => x :: insO lt y r
def isortGo {α : Type} (lt : α → α → Bool) : List α → List α → List α
  | acc, [] => acc
  | acc, y :: r => isortGo lt (insO lt y acc) r
def isort {α : Type} (lt : α → α → Bool) (l : List α) : List α := isortGo lt [] l
theorem insO_split {α : Type} {lt : α → α → Bool} (O : SrtO.Swo lt) (y : α) : ∀ {l : List α}, SrtO.Srtd lt l → ∃ M N, l = M ++ N ∧ insO lt y l = M ++ y :: N ∧ (∀ x ∈ M, lt y x = false) ∧ ∀ x ∈ N, lt y x = true
  | [], _ => ⟨[], [], rfl, rfl, by simp, by simp⟩
  | x :: r, h => by
    cases e : lt y x with
    | true => exact ⟨[], x :: r, rfl, by simp [insO, e], by simp, O.lt_all h e⟩
    | false =>
      obtain ⟨M, N, h1, h2, h3, h4⟩ := insO_split O y (List.pairwise_cons.mp h).2
      refine ⟨x :: M, N, by rw [h1]; rfl, by simp [insO, e, h2], fun z hz => ?_, h4⟩
      rcases List.mem_cons.mp hz with q | q
      · rw [q]; exact e
      · exact h3 z q
theorem isortGo_ok {α : Type} {lt : α → α → Bool} (O : SrtO.Swo lt) : ∀ (l acc done : List α), SrtO.Srtd lt acc → SrtO.Stb lt acc done → SrtO.Srtd lt (isortGo lt acc l) ∧ SrtO.Stb lt (isortGo lt acc l) (done ++ l)
  | [], acc, done, h1, h2 => ⟨h1, by rw [List.append_nil]; exact h2⟩
  | y :: r, acc, done, h1, h2 => by
    obtain ⟨M, N, e1, e2, e3, e4⟩ := insO_split O y h1
    have a1 : SrtO.Srtd lt (insO lt y acc) := by rw [e2]; exact SrtO.ins_srtd O (by rw [← e1]; exact h1) e3 e4
    have a2 : SrtO.Stb lt (insO lt y acc) (done ++ [y]) := by rw [e2]; exact SrtO.ins_stb O e4 (by rw [← e1]; exact h2)
    have := isortGo_ok O r (insO lt y acc) (done ++ [y]) a1 a2
    rw [List.append_assoc] at this
    exact this
theorem isort_ok {α : Type} {lt : α → α → Bool} (O : SrtO.Swo lt) (l : List α) : SrtO.Srtd lt (isort lt l) ∧ SrtO.Stb lt (isort lt l) l := isortGo_ok O l [] [] List.Pairwise.nil (SrtO.Stb.refl _)
theorem isort_eq {α : Type} {lt : α → α → Bool} (O : SrtO.Swo lt) {l m : List α} (h1 : SrtO.Srtd lt m) (h2 : SrtO.Stb lt m l) : m = isort lt l := by
  obtain ⟨a, b⟩ := isort_ok O l
  exact SrtO.stb_uniq O h1 a ⟨h2.perm.trans b.perm.symm, fun x => (h2.cls x).trans (b.cls x).symm⟩
theorem swoI : SrtO.Swo (fun x y : Int => decide (x < y)) := by
  refine ⟨fun x y h => ?_, fun x y z h1 h2 => ?_⟩
  · have := of_decide_eq_true h; exact decide_eq_false (by omega)
  · have := of_decide_eq_false h1; have := of_decide_eq_false h2; exact decide_eq_false (by omega)
section
variable {g : Gd} {X : Cx} {Wx : WX} {e a b c : Expr} {pos : Pos} {tg : Expr} {ρ : Nat → Addr} {n : Nat} {H : Hp}
/-- two lists sorted side by side -/
inductive P2 {α β : Type} (R : α → β → Prop) : List α → List β → Prop
  | nil : P2 R [] []
  | cons {x y xs ys} : R x y → P2 R xs ys → P2 R (x :: xs) (y :: ys)
theorem P2.insO {α β : Type} {R : α → β → Prop} {lt : α → α → Bool} {lt' : β → β → Bool} (hl : ∀ x x' y y', R x y → R x' y' → lt x x' = lt' y y') {x : α} {y : β} (h : R x y) : ∀ {l : List α} {m : List β}, P2 R l m → P2 R (M.insO lt x l) (M.insO lt' y m)
  | _, _, .nil => .cons h .nil
  | a :: l, b :: m, .cons r t => by
    unfold M.insO
    rw [hl x a y b h r]
    cases lt' y b with
    | true => exact .cons h (.cons r t)
    | false => exact .cons r (P2.insO hl h t)
theorem P2.isortGo {α β : Type} {R : α → β → Prop} {lt : α → α → Bool} {lt' : β → β → Bool} (hl : ∀ x x' y y', R x y → R x' y' → lt x x' = lt' y y') : ∀ {l : List α} {m : List β} {acc : List α} {acc' : List β}, P2 R acc acc' → P2 R l m → P2 R (M.isortGo lt acc l) (M.isortGo lt' acc' m)
  | _, _, _, _, h, .nil => h
  | x :: l, y :: m, acc, acc', h, .cons r t => by
    have q := P2.isortGo hl (P2.insO hl r h) t
    unfold M.isortGo
    exact q
/-- a pair of ints, or (0, 0) -/
def pr2 : W → Int × Int
  | .tup [.int i, .int j] => (i, j)
  | _ => (0, 0)
def isPr : W → Bool
  | .tup [.int _, .int _] => true
  | _ => false
def ltW (x y : W) : Bool := SrtO.lexB (pr2 x) (pr2 y)
/-- what the pair at v is -/
theorem pr_key {xs : List W} {vs : List V} (r : RelWs g ρ n H xs vs) (h : xs.all isPr = true) : ∃ k : V → Int × Int, (∀ v ∈ vs, ∃ t, v = .ref t ∧ H t = some (.tup [.int (k v).1, .int (k v).2])) ∧ P2 (fun x v => RelW g ρ n H x v ∧ pr2 x = k v) xs vs := by
  -- a key read off the heap
  let k : V → Int × Int := fun v => match v with
    | .ref t => (match H t with | some (.tup [.int i, .int j]) => (i, j) | _ => (0, 0))
    | _ => (0, 0)
  have one : ∀ x v, RelW g ρ n H x v → isPr x = true → (∃ t, v = .ref t ∧ H t = some (.tup [.int (k v).1, .int (k v).2])) ∧ pr2 x = k v := by
    intro x v r h
    unfold isPr at h
    split at h
    · rename_i i j
      simp only [RelW] at r
      obtain ⟨a, vs, rfl, e1, e2⟩ := r
      have := e2.as2
      subst this
      have kv : k (.ref a) = (i, j) := by
        show (match H a with | some (.tup [.int i, .int j]) => (i, j) | _ => (0, 0)) = (i, j)
        rw [e1]
      exact ⟨⟨a, rfl, by rw [kv]; exact e1⟩, by rw [kv]; rfl⟩
    · cases h
  refine ⟨k, ?_⟩
  induction xs generalizing vs with
  | nil => rw [r.inv_nil]; exact ⟨by simp, .nil⟩
  | cons x xs ih =>
    obtain ⟨v, us, rfl, r1, r2⟩ := r.inv_cons
    rw [List.all_cons, Bool.and_eq_true] at h
    obtain ⟨a1, a2⟩ := one x v r1 h.1
    obtain ⟨b1, b2⟩ := ih r2 h.2
    refine ⟨fun u hu => ?_, .cons ⟨r1, a2⟩ b2⟩
    rcases List.mem_cons.mp hu with q | q
    · rw [q]; exact a1
    · exact b1 u q
theorem P2.rel {k : V → Int × Int} : ∀ {xs : List W} {vs : List V}, P2 (fun x v => RelW g ρ n H x v ∧ pr2 x = k v) xs vs → RelWs g ρ n H xs vs
  | _, _, .nil => .nil
  | _, _, .cons r t => .cons r.1 (P2.rel t)
def fSorted (xs : List W) (h : MH) : Res W := match xs with
  | [w] => (match litems w h with
    | some ys => (match allI ys with
      | some is => .ok (.ref h.n) (h.push (.lst ((isort (fun x y : Int => decide (x < y)) is).map W.int)))
      | none => (match ys.all isPr with
        | true => .ok (.ref h.n) (h.push (.lst (isort ltW ys)))
        | false => .stuck))
    | none => .stuck)
  | _ => .stuck
theorem relInts : ∀ is : List Int, RelWs g ρ n H (is.map W.int) (is.map V.int)
  | [] => .nil
  | i :: is => .cons (by simp only [RelW]) (relInts is)
theorem oSorted : CallS g (fun xs H Q => rSortedI g.K xs H Q ∨ rSortedPO g.K xs H Q) fSorted := by
  intro ρ h H xs vs Q E S r f
  unfold fSorted at f
  split at f
  · rename_i w
    obtain ⟨v, rfl, r1⟩ := one_of r
    split at f
    · rename_i ys e
      obtain ⟨a, us, rfl, hs, rr⟩ := litems_ok S r1 e
      split at f
      · rename_i is e2
        rw [allI_ok e2 rr] at hs
        refine .inl ⟨a, is, rfl, hs, fun ns' p pm pw hp => ?_⟩
        have : ns' = isort (fun x y : Int => decide (x < y)) is := by
          obtain ⟨a1, a2⟩ := isort_ok swoI is
          have s1 : SrtO.Srtd (fun x y : Int => decide (x < y)) ns' := pw.imp fun {x y} h => decide_eq_false (by omega)
          refine SrtO.stb_uniq swoI s1 a1 ⟨pm.trans a2.perm.symm, fun x => ?_⟩
          rw [a2.cls x]
          have : (SrtO.eqv (fun x y : Int => decide (x < y)) x) = fun y => decide (y = x) := by
            funext y
            unfold SrtO.eqv
            by_cases q : y = x
            · simp [q]
            · have : x < y ∨ y < x := by omega
              rcases this with z | z
              · simp [z, q]
              · simp [z, q]
          rw [this]
          have pf := pm.filter (fun y => decide (y = x))
          have all : ∀ l : List Int, l.filter (fun y => decide (y = x)) = List.replicate (l.filter (fun y => decide (y = x))).length x := by
            intro l
            induction l with
            | nil => rfl
            | cons z l ih =>
              by_cases q : z = x
              · rw [List.filter_cons_of_pos (by simp [q]), List.length_cons, List.replicate_succ, ← ih, q]
              · rw [List.filter_cons_of_neg (by simp [q]), ← ih]
          rw [all ns', all is, pf.length_eq]
        subst this
        exact f.push S (relInts _) hp
      · split at f
        · rename_i e3
          obtain ⟨k, hk, p2⟩ := pr_key rr e3
          refine .inr ⟨a, us, k, rfl, hs, hk, fun zs p s1 s2 hp => ?_⟩
          have : zs = isort (ltP k) us := isort_eq (ltP_swo k) s1 s2
          subst this
          have q : P2 (fun x v => RelW g ρ h.n H x v ∧ pr2 x = k v) (isort ltW ys) (isort (ltP k) us) := P2.isortGo (fun x x' y y' r r' => by unfold ltW ltP; rw [r.2, r'.2]) .nil p2
          exact f.push S q.rel hp
        · exact f.elim
    · exact f.elim
  · exact f.elim
end
end M

set_option Elab.async false
set_option linter.all false
set_option maxRecDepth 100000
set_option maxHeartbeats 4000000
namespace M
open PySem PySem.Spec PyProof.Rows L2
section
variable {g : Gd} {X : Cx} {Wx : WX} {e a b c : Expr} {pos : Pos} {tg : Expr}

/-! ### a[lo:hi:step] of lists -/
def pickG {α : Type} (xs : List α) (lo hi st : Option Int) : List α :=
  (sliceRange (sliceBounds lo hi st xs.length).1 (sliceBounds lo hi st xs.length).2.1 (sliceBounds lo hi st xs.length).2.2).filterMap (xs[·]?)
theorem pick_arr (its : List Value) (lo hi st : Option Int) : slicePick its.toArray lo hi st = (pickG its lo hi st).toArray := by
  unfold slicePick pickG
  simp
theorem vals_pick {xs : List V} {us : List Value} (r : Vals xs us) : ∀ l : List Nat, Vals (l.filterMap (xs[·]?)) (l.filterMap (us[·]?))
  | [] => .nil
  | i :: l => by
    rw [List.filterMap_cons, List.filterMap_cons]
    cases e : xs[i]? with
    | none =>
      rw [r.none_of e]
      exact vals_pick r l
    | some x =>
      obtain ⟨u, e2, ru⟩ := r.get e
      rw [e2]
      exact .cons ru (vals_pick r l)
theorem rel_pick {ρ n H} {xs : List W} {vs : List V} (r : RelWs g ρ n H xs vs) : ∀ l : List Nat, RelWs g ρ n H (l.filterMap (xs[·]?)) (l.filterMap (vs[·]?))
  | [] => .nil
  | i :: l => by
    rw [List.filterMap_cons, List.filterMap_cons]
    cases e : xs[i]? with
    | none =>
      rw [r.none e]
      exact rel_pick r l
    | some x =>
      obtain ⟨u, e2, ru⟩ := r.get e
      rw [e2]
      exact .cons ru (rel_pick r l)
def tSt (K : PySem.W.Frag) (te : TE) (tl tu ts : TO) : TE := fun σ H Q => te σ H fun x H1 => tl σ H1 fun lo H2 => tu σ H2 fun hi H3 => ts σ H3 fun st H4 => ∃ a xs, x = .ref a ∧ SqL K H4 a xs ∧ st ≠ some 0 ∧ ∀ p, H4 p = none → Q (.ref p) (upd H4 p (.lst (pickG xs lo hi st)))
theorem pe_step {lo hi : Option Expr} {st : Expr} {te : TE} {tl tu ts : TO} {p2 : Pos} (he : PE X e te) (hl : PO X lo tl) (hu : PO X hi tu) (hs : PO X (some st) ts) : PE X (.Subscript e (.Slice lo hi (some st) p2) pos) (tSt X.K te tl tu ts) := by
  refine ⟨fun pins s σ H Q I h => ?_⟩
  refine Subscript_ (thn (he.run pins s σ H _ I h) fun v s1 ⟨x, H1, I1, r1, q1⟩ => ?_)
  refine wpAny_Slice (thn (hl.run pins s1 σ H1 _ I1 q1) fun vl s2 ⟨l, H2, I2, pl, q2⟩ => thn (hu.run pins s2 σ H2 _ I2 q2) fun vu s3 ⟨u, H3, I3, pu, q3⟩ => thn (hs.run pins s3 σ H3 _ I3 q3) fun vs s4 ⟨o, H4, I4, ps, q4⟩ => ?_)
  obtain ⟨a, xs, ex, hx, h0, q⟩ := q4
  subst ex
  cases r1
  have I5 : Inv X pins σ H4 { s4 with heap := s4.heap.push { cls := .type "slice", data := .fields #[vl, vu, vs] } } := I4.kept (t' := s4.toks) fun b ob q => Heap.get?_push_of_some _ q
  obtain ⟨its, r, ht, hz⟩ := I5.list hx
  have hlen := r.length
  refine tail_any (ops := [.ref a, .ref s4.heap.objs.size]) ht.isList.typeIs (PySem.slot_list_getitem.lookup) ?_ rfl
  refine wpAny_getItem_list_slice ht.isList (Heap.IsSliceOf.new _ vl vu vs) pl pu ps h0 ?_ (by rw [List.size_toArray]; omega)
  rw [pick_arr]
  have rp : Vals (pickG xs l u o) (pickG its l u o) := by unfold pickG; rw [hlen]; exact vals_pick r _
  refine ⟨.ref _, _, I5.laid (t' := s4.toks) (o := .lst (pickG xs l u o)) (fun b ob q => Heap.get?_push_of_some _ q) (Nat.le_refl _) ?_, rfl, q _ (I5.hok.fresh (Nat.le_refl _))⟩
  refine ⟨?_, _, 0, rp, Heap.get?_push_size _ rfl⟩
  have := slicePick_size_le its.toArray l u o
  rw [pick_arr, List.size_toArray, List.size_toArray] at this
  rw [rp.length]
  omega
def isZ : Option Int → Bool
  | some i => decide (i = 0)
  | none => false
def fStep (x : W) (lo hi st : Option Int) (h : MH) : Res W := match isZ st, litems x h with
  | false, some xs => .ok (.ref h.n) (h.push (.lst (pickG xs lo hi st)))
  | _, _ => .stuck
def dStep (m : Dn W) (l u t : Dn (Option Int)) : Dn W := fun ws h => (m ws h).bnd fun x h1 => (l ws h1).bnd fun lo h2 => (u ws h2).bnd fun hi h3 => (t ws h3).bnd fun st h4 => fStep x lo hi st h4
theorem m_step (hK : X.K = g.K) {lo hi : Option Expr} {st : Expr} {m : Dn W} {l u t : Dn (Option Int)} {p2 : Pos} (he : PE X e (tE g Wx m)) (hl : PO X lo (tO g Wx l)) (hu : PO X hi (tO g Wx u)) (hs : PO X (some st) (tO g Wx t)) : PE X (.Subscript e (.Slice lo hi (some st) p2) pos) (tE g Wx (dStep m l u t)) :=
  weak (pe_step he hl hu hs) fun σ H Q x => by
    obtain ⟨ρ, ws, h, S, sl, fin⟩ := x
    refine ⟨ρ, ws, h, S, sl, (Fin.bnd (R := RelW g) fin).mono fun vx H1 ⟨ρ1, h1, wx, X1, S1, r1, f1⟩ => ?_⟩
    refine ⟨ρ1, ws, h1, S1, sl.ext X1, (Fin.bnd (R := ROI) f1).mono fun lo H2 ⟨ρ2, h2, lo', X2, S2, r2, f2⟩ => ?_⟩
    refine ⟨ρ2, ws, h2, S2, (sl.ext X1).ext X2, (Fin.bnd (R := ROI) f2).mono fun hi H3 ⟨ρ3, h3, hi', X3, S3, r3, f3⟩ => ?_⟩
    refine ⟨ρ3, ws, h3, S3, ((sl.ext X1).ext X2).ext X3, (Fin.bnd (R := ROI) f3).mono fun st H4 ⟨ρ4, h4, st', X4, S4, r4, f4⟩ => ?_⟩
    have e2 : lo' = lo := r2
    have e3 : hi' = hi := r3
    have e4 : st' = st := r4
    subst e2; subst e3; subst e4
    have r := ((r1.ext X2).ext X3).ext X4
    unfold fStep at f4
    cases e0 : isZ st' with
    | true => rw [e0] at f4; exact f4.elim
    | false =>
    cases e : litems wx h4 with
    | none => rw [e0, e] at f4; exact f4.elim
    | some xs =>
      rw [e0, e] at f4
      have e1 : st' ≠ some 0 := fun z => by rw [z] at e0; simp [isZ] at e0
      obtain ⟨a, vs, rfl, hs, rr⟩ := litems_ok S4 r e
      refine ⟨a, vs, rfl, by rw [hK]; exact hs, e1, fun p hp => f4.push S4 ?_ hp⟩
      unfold pickG
      rw [rr.len]
      exact rel_pick rr _
end
end M

set_option Elab.async false
set_option linter.all false
set_option maxRecDepth 100000
set_option maxHeartbeats 4000000
namespace M
open PySem PySem.Spec PyProof.Rows L2
section
variable {g : Gd} {X : Cx} {Wx : WX} {e a b c : Expr} {pos : Pos} {tg : Expr}
theorem Sl.out2 {ρ : Nat → Addr} {n : Nat} {H : Hp} {p : Addr} {o1 o2 : HO} (hp : H p = some o1) (l : Loose o1) {ws : WS} {σ : L2.St} (s : Sl g ρ n H ws σ) : Sl g ρ n (upd H p o2) ws σ :=
  ⟨s.1, fun i w e => let ⟨v, a, b⟩ := s.2 i w e; ⟨v, a, b.out2 hp l⟩⟩
theorem lc_run {J : It} {P : (Nat → Addr) → Nat → Hp → Prop} {nx : Nx} {us vs : List Nat} {tgt : TG} {bd : W → WS → Option WS} {mt : Dn Bool} {me : Dn W} {wsw : WS} {σ : L2.St} {D : Addr} {ρb : Nat → Addr} {nb : Nat} {Hb : Hp} {F : Nat} {acc0 accF : List W} {ρ0 : Nat → Addr} {h0 hF : MH} {H0 : Hp} {Qd : Hp → Prop}
    (ok : ItOk g J P nx) (G : GS g us tgt bd) (hu : ∀ i ∈ us, i ∈ vs) (hD : Hb D = none) (A0 : LcAt g P wsw (wipe σ vs) D ρb nb Hb acc0 ρ0 h0 H0)
    (q0 : dLcGo nx bd mt me wsw F 0 acc0 h0 = .ok accF hF) (hl : accF.length ≤ 16777216) (kd : ∀ ρ' H', LcAt g P wsw (wipe σ vs) D ρb nb Hb accF ρ' hF H' → Qd H') :
    ∃ W : Nat → Nat → Hp → Prop, (∃ m, W 0 m H0) ∧ ∀ i m H, W i m H → (J.stop i H ∧ Qd H) ∨ (J.go i H ∧ ∃ Nx : Hp → Prop, (∀ H', Nx H' → ∃ m', m' < m ∧ W (i + 1) m' H') ∧ ∀ x H', J.yld i H x H' → tgt x (wipe σ vs) H' fun σ2 H2 => wipe σ2 vs = wipe σ vs ∧ tT g W0 mt σ2 H2 fun b H3 =>
      if b = true then tE g W0 me σ2 H3 fun y H4 => ∃ acc, H4 D = some (.lst acc) ∧ acc.length < sizeLine ∧ Nx (upd H4 D (.lst (acc ++ [y]))) else Nx H3) := by
  refine ⟨fun i f H' => ∃ acc ρ' h', LcAt g P wsw (wipe σ vs) D ρb nb Hb acc ρ' h' H' ∧ dLcGo nx bd mt me wsw f i acc h' = .ok accF hF, ⟨F, acc0, ρ0, h0, A0, q0⟩, ?_⟩
  rintro i f H2 ⟨acc, ρ2, h2, A, ea⟩
  obtain ⟨dvs, hd, rd⟩ := A.d
  cases f with
  | zero => unfold dLcGo at ea; cases ea
  | succ f =>
    cases en : nx i h2 with
    | none => unfold dLcGo at ea; rw [en] at ea; cases ea
    | some o =>
      cases o with
      | none =>
        unfold dLcGo at ea
        simp only [en] at ea
        injection ea with e1 e2
        subst e1; subst e2
        exact .inl ⟨ok.stop ρ2 _ H2 i A.S A.p en, kd ρ2 H2 A⟩
      | some w =>
        obtain ⟨g1, g2⟩ := ok.go ρ2 h2 H2 i w A.S A.p en
        refine .inr ⟨g1, fun H' => ∃ acc ρ' h', LcAt g P wsw (wipe σ vs) D ρb nb Hb acc ρ' h' H' ∧ dLcGo nx bd mt me wsw f (i + 1) acc h' = .ok accF hF, fun H' z => ⟨f, Nat.lt_succ_self _, z⟩, fun v H3 y => ?_⟩
        obtain ⟨X3, S3, r3⟩ := g2 v H3 y
        have hd3 : H3 D = some (.lst dvs) := X3.keep D _ hd A.nr (by intro _ z; cases z)
        cases eb : bd w wsw with
        | none => unfold dLcGo at ea; rw [en] at ea; simp only [eb] at ea; cases ea
        | some ws' =>
          refine G.go ρ2 h2 H3 w v wsw (wipe σ vs) _ S3 r3 (A.sl.ext X3) ws' eb fun σ' sl' w' => ⟨by rw [w' vs hu]; exact wipe_idem, ?_⟩
          refine ⟨ρ2, ws', h2, S3, sl', ?_⟩
          cases et : mt ws' h2 with
          | exc c fs h' => unfold dLcGo at ea; rw [en] at ea; simp only [eb, et] at ea; cases ea
          | stuck => unfold dLcGo at ea; rw [en] at ea; simp only [eb, et] at ea; cases ea
          | ok k h4 =>
            intro ρ4 H4 k' X4 S4 r4
            have ek : k = k' := r4
            subst ek
            have X34 := X3.trans X4
            have nr4 : ∀ i, i < h4.n → ρ4 i ≠ D := fun j hj z => by
              by_cases hn : j < h2.n
              · rw [X34.eq j hn] at z; exact A.nr j hn z
              · have := X34.new j (Nat.not_lt.mp hn) hj
                rw [z, hd] at this; cases this
            have hd4 : H4 D = some (.lst dvs) := X34.keep D _ hd A.nr (by intro _ z; cases z)
            have A4 : LcAt g P wsw (wipe σ vs) D ρb nb Hb acc ρ4 h4 H4 := ⟨A.X.trans X34, S4, A.sl.ext X34, ok.ext X34 A.p, ⟨dvs, hd4, rd.ext X34⟩, nr4⟩
            cases k with
            | false =>
              rw [if_neg Bool.false_ne_true]
              unfold dLcGo at ea
              simp only [en, eb, et] at ea
              exact ⟨acc, ρ4, h4, A4, ea⟩
            | true =>
              rw [if_pos rfl]
              refine ⟨ρ4, ws', h4, S4, sl'.ext X4, ?_⟩
              cases ee : me ws' h4 with
              | exc c fs h' => unfold dLcGo at ea; rw [en] at ea; simp only [eb, et, ee] at ea; cases ea
              | stuck => unfold dLcGo at ea; rw [en] at ea; simp only [eb, et, ee] at ea; cases ea
              | ok yy h5 =>
                intro ρ5 H5 u X5 S5 r5
                have X45 := X34.trans X5
                unfold dLcGo at ea
                simp only [en, eb, et, ee] at ea
                have nr5 : ∀ i, i < h5.n → ρ5 i ≠ D := fun j hj z => by
                  by_cases hn : j < h4.n
                  · rw [X5.eq j hn] at z; exact nr4 j hn z
                  · have := X5.new j (Nat.not_lt.mp hn) hj
                    rw [z, hd4] at this; cases this
                have hd5 : H5 D = some (.lst dvs) := X5.keep D _ hd4 nr4 (by intro _ z; cases z)
                have rd5 : RelWs g ρ5 h5.n H5 acc.reverse dvs := rd.ext X45
                have hlen : dvs.length < sizeLine := by
                  rw [rd5.len, List.length_reverse, sizeLine_eq]
                  have l1 := lcGo_len _ _ _ _ _ _ ea
                  simp only [List.length_cons] at l1
                  omega
                refine ⟨dvs, hd5, hlen, yy :: acc, ρ5, h5, ⟨Ext.out2 (A.X.trans X45) hD nr5, Sim.out2 S5 hd5 True.intro nr5, (A.sl.ext X45).out2 hd5 True.intro, ok.out2 hd5 True.intro nr5 (ok.ext X45 A.p), ⟨dvs ++ [u], upd_same, ?_⟩, nr5⟩, ea⟩
                rw [List.reverse_cons]
                exact (rd5.append (.cons r5 RelWs.nil)).out2 hd5 True.intro
/-- two clauses -/
def dLc2Go (nx : Nx) (b : W → WS → Option WS) (t : Dn Bool) (m1 : Dn Nx) (vs1 : List Nat) (b1 : W → WS → Option WS) (t1 : Dn Bool) (e : Dn W) (ws : WS) : Nat → Nat → List W → MH → Res (List W)
  | 0, _, _ => fun _ => .stuck
  | f + 1, i, acc => fun h => match nx i h with
    | none => .stuck
    | some none => .ok acc h
    | some (some w) => (match b w ws with
      | none => .stuck
      | some ws' => (match t ws' h with
        | .ok true h1 => (match m1 ws' h1 with
          | .ok nx1 h2 => (match dLcGo nx1 b1 t1 e (wipeW ws' vs1) LOOPS 0 acc h2 with
            | .ok acc' h3 => dLc2Go nx b t m1 vs1 b1 t1 e ws f (i + 1) acc' h3
            | _ => .stuck)
          | _ => .stuck)
        | .ok false h1 => dLc2Go nx b t m1 vs1 b1 t1 e ws f (i + 1) acc h1
        | _ => .stuck))
theorem lc2Go_len {nx : Nx} {b : W → WS → Option WS} {t : Dn Bool} {m1 : Dn Nx} {vs1 : List Nat} {b1 : W → WS → Option WS} {t1 : Dn Bool} {e : Dn W} {ws : WS} : ∀ (f i : Nat) (acc : List W) (h : MH) (ys : List W) (h' : MH), dLc2Go nx b t m1 vs1 b1 t1 e ws f i acc h = .ok ys h' → acc.length ≤ ys.length
  | 0, _, _, _, _, _, q => by unfold dLc2Go at q; cases q
  | f + 1, i, acc, h, ys, h', q => by
    unfold dLc2Go at q
    split at q
    · cases q
    · injection q with q1 q2; rw [q1]; exact Nat.le_refl _
    · split at q
      · cases q
      · split at q
        · split at q
          · split at q
            · rename_i z
              exact Nat.le_trans (lcGo_len _ _ _ _ _ _ z) (lc2Go_len f _ _ _ _ _ q)
            · cases q
          · cases q
        · exact lc2Go_len f _ _ _ _ _ q
        · cases q
def dLc2 (m : Dn Nx) (vs : List Nat) (b : W → WS → Option WS) (t : Dn Bool) (m1 : Dn Nx) (vs1 : List Nat) (b1 : W → WS → Option WS) (t1 : Dn Bool) (e : Dn W) : Dn W := fun ws h => (m ws h).bnd fun nx h1 =>
  match dLc2Go nx b t m1 vs1 b1 t1 e (wipeW ws vs) LOOPS 0 [] h1 with
  | .ok acc h2 => fRevL acc h2
  | _ => .stuck
theorem lc2_reads {us vs us1 vs1 : List Nat} {tgt tgt1 : TG} {bd bd1 : W → WS → Option WS} (G : GS g us tgt bd) (hu : ∀ i ∈ us, i ∈ vs) (G1 : GS g us1 tgt1 bd1) (hu1 : ∀ i ∈ us1, i ∈ vs1) {m m1 : Dn Nx} {mt mt1 : Dn Bool} {me : Dn W} {σ : L2.St} {H : Hp} {Q : VK} (x : tE g Wx (dLc2 m vs bd mt m1 vs1 bd1 mt1 me) σ H Q) :
    tLc2 (tI g Wx m) tgt (tT g W0 mt) (tI g W0 m1) tgt1 (tT g W0 mt1) (tE g W0 me) vs vs1 σ H Q := by
  obtain ⟨ρ, ws, h, S, sl, fin⟩ := x
  refine ⟨ρ, ws, h, S, sl, (Fin.bnd (R := fun ρ' n' H' (nx : Nx) (J : It) => ∃ P, ItOk g J P nx ∧ P ρ' n' H') fin).mono fun J H1 ⟨ρ1, h1, nx, X1, S1, ⟨P, ok, p1⟩, f1⟩ => ?_⟩
  intro D hD
  have slw := (sl.ext X1).wipe vs
  cases z : dLc2Go nx bd mt m1 vs1 bd1 mt1 me (wipeW ws vs) LOOPS 0 [] h1 with
  | exc c fs h' => rw [z] at f1; exact f1.elim
  | stuck => rw [z] at f1; exact f1.elim
  | ok accF hF =>
    rw [z] at f1
    have f2 : Fin g (RelW g) ρ1 h1 H1 Q (fun c d H' => Wx c d σ H') (fLst accF.reverse hF) := f1
    unfold fLst at f2
    cases el : lenOk accF.reverse with
    | false => rw [el] at f2; exact f2.elim
    | true =>
      rw [el] at f2
      have hl : accF.length ≤ 16777216 := by
        have := Nat.le_of_ble_eq_true el
        rwa [List.length_reverse] at this
      refine ⟨fun i f H' => ∃ acc ρ' h', LcAt g P (wipeW ws vs) (wipe σ vs) D ρ1 h1.n H1 acc ρ' h' H' ∧ dLc2Go nx bd mt m1 vs1 bd1 mt1 me (wipeW ws vs) f i acc h' = .ok accF hF, ⟨LOOPS, [], ρ1, h1, ?_, z⟩, ?_⟩
      · have nr : ∀ i, i < h1.n → ρ1 i ≠ D := fun i hi z => by have := S1.ne hi; rw [z, hD] at this; exact this rfl
        exact ⟨Ext.out S1 hD, Sim.out S1 hD, slw.ext (Ext.out S1 hD), ok.ext (Ext.out S1 hD) p1, ⟨[], upd_same, RelWs.nil⟩, nr⟩
      rintro i f H2 ⟨acc, ρ2, h2, A, ea⟩
      obtain ⟨dvs, hd, rd⟩ := A.d
      cases f with
      | zero => unfold dLc2Go at ea; cases ea
      | succ f =>
        cases en : nx i h2 with
        | none => unfold dLc2Go at ea; rw [en] at ea; cases ea
        | some o =>
          cases o with
          | none =>
            unfold dLc2Go at ea
            simp only [en] at ea
            injection ea with e1 e2
            subst e1; subst e2
            refine .inl ⟨ok.stop ρ2 _ H2 i A.S A.p en, f2 (exρ ρ2 _ D) H2 (.ref D) (Ext.land A.X hD) (Sim.land A.S hd rd A.nr) ?_⟩
            simp only [RelW]
            exact ⟨Nat.lt_succ_self _, by unfold exρ; rw [if_pos rfl]⟩
          | some w =>
            obtain ⟨g1, g2⟩ := ok.go ρ2 h2 H2 i w A.S A.p en
            refine .inr ⟨g1, fun H' => ∃ acc ρ' h', LcAt g P (wipeW ws vs) (wipe σ vs) D ρ1 h1.n H1 acc ρ' h' H' ∧ dLc2Go nx bd mt m1 vs1 bd1 mt1 me (wipeW ws vs) f (i + 1) acc h' = .ok accF hF, fun H' z => ⟨f, Nat.lt_succ_self _, z⟩, fun v H3 y => ?_⟩
            obtain ⟨X3, S3, r3⟩ := g2 v H3 y
            cases eb : bd w (wipeW ws vs) with
            | none => unfold dLc2Go at ea; rw [en] at ea; simp only [eb] at ea; cases ea
            | some ws' =>
              refine G.go ρ2 h2 H3 w v (wipeW ws vs) (wipe σ vs) _ S3 r3 (A.sl.ext X3) ws' eb fun σ' sl' w' => ⟨by rw [w' vs hu]; exact wipe_idem, ?_⟩
              refine ⟨ρ2, ws', h2, S3, sl', ?_⟩
              cases et : mt ws' h2 with
              | exc c fs h' => unfold dLc2Go at ea; rw [en] at ea; simp only [eb, et] at ea; cases ea
              | stuck => unfold dLc2Go at ea; rw [en] at ea; simp only [eb, et] at ea; cases ea
              | ok k h4 =>
                intro ρ4 H4 k' X4 S4 r4
                have ek : k = k' := r4
                subst ek
                have lift : ∀ {ρ5 : Nat → Addr} {h5 : MH} {H5 : Hp}, Ext ρ2 h2.n H2 ρ5 h5.n H5 → Sim g ρ5 h5 H5 → LcAt g P (wipeW ws vs) (wipe σ vs) D ρ1 h1.n H1 acc ρ5 h5 H5 := fun {ρ5 h5 H5} X5 S5 =>
                  ⟨A.X.trans X5, S5, A.sl.ext X5, ok.ext X5 A.p, ⟨dvs, X5.keep D _ hd A.nr (by intro _ z; cases z), rd.ext X5⟩, fun j hj z => by
                    by_cases hn : j < h2.n
                    · rw [X5.eq j hn] at z; exact A.nr j hn z
                    · have := X5.new j (Nat.not_lt.mp hn) hj
                      rw [z, hd] at this; cases this⟩
                cases k with
                | false =>
                  rw [if_neg Bool.false_ne_true]
                  unfold dLc2Go at ea
                  simp only [en, eb, et] at ea
                  exact ⟨acc, ρ4, h4, lift (X3.trans X4) S4, ea⟩
                | true =>
                  rw [if_pos rfl]
                  refine ⟨ρ4, ws', h4, S4, sl'.ext X4, ?_⟩
                  unfold dLc2Go at ea
                  simp only [en, eb, et] at ea
                  cases e1 : m1 ws' h4 with
                  | exc c fs h' => rw [e1] at ea; simp only at ea; cases ea
                  | stuck => rw [e1] at ea; simp only at ea; cases ea
                  | ok nx1 h5 =>
                    rw [e1] at ea
                    simp only at ea
                    rintro ρ5 H5 J1 X5 S5 ⟨P1, ok1, p5⟩
                    cases e2 : dLcGo nx1 bd1 mt1 me (wipeW ws' vs1) LOOPS 0 acc h5 with
                    | exc c fs h' => rw [e2] at ea; simp only at ea; cases ea
                    | stuck => rw [e2] at ea; simp only at ea; cases ea
                    | ok acc' h6 =>
                      rw [e2] at ea
                      simp only at ea
                      have B := lift ((X3.trans X4).trans X5) S5
                      -- the inner loop keeps what the outer one stands on
                      let P2 : (Nat → Addr) → Nat → Hp → Prop := fun ρ n H => P1 ρ n H ∧ P ρ n H ∧ Sl g ρ n H (wipeW ws vs) (wipe σ vs)
                      have ok2 : ItOk g J1 P2 nx1 := ⟨fun E ⟨a, b, c⟩ => ⟨ok1.ext E a, ok.ext E b, c.ext E⟩, fun hp l hr ⟨a, b, c⟩ => ⟨ok1.out2 hp l hr a, ok.out2 hp l hr b, c.out2 hp l⟩, fun ρ h H i w S ⟨a, _⟩ q => ok1.go ρ h H i w S a q, fun ρ h H i S ⟨a, _⟩ q => ok1.stop ρ h H i S a q⟩
                      have A5 : LcAt g P2 (wipeW ws' vs1) (wipe σ' vs1) D ρ1 h1.n H1 acc ρ5 h5 H5 := ⟨B.X, S5, ((sl'.ext X4).ext X5).wipe vs1, ⟨p5, B.p, B.sl⟩, B.d, B.nr⟩
                      have l6 : acc'.length ≤ 16777216 := Nat.le_trans (lc2Go_len _ _ _ _ _ _ ea) hl
                      exact lc_run ok2 G1 hu1 hD A5 e2 l6 fun ρ' H' C => ⟨acc', ρ', h6, ⟨C.X, C.S, C.p.2.2, C.p.2.1, C.d, C.nr⟩, ea⟩
theorem m_lc2 {us us1 : List Nat} {elt iter tg1 iter1 : Expr} {ifs ifs1 : List Expr} {scope : Scope} {own : List (Str × Nat)} {vs1 : List Nat} {tgt tgt1 : TG} {bd bd1 : W → WS → Option WS} {m m1 : Dn Nx} {mt mt1 : Dn Bool} {me : Dn W} (hc : X.calm = true) (hN : X.N.Nodup) (hi : PI X tg iter (tI g Wx m)) (ok : BlkOk X.N X.env.scope scope own) (hv : ∀ i ∈ vs1, i ∈ own.map (·.2))
    (hg : ∀ (s : Shared) (H : Hp) (C : Addr) (cl : List (Str × Addr)) (fp : List Addr), PG (X.blk s H scope (compEnvC scope cl C X.env) fp) tg tgt) (G : GS g us tgt bd) (hu : ∀ i ∈ us, i ∈ own.map (·.2))
    (ht : ∀ (s : Shared) (H : Hp) (C : Addr) (cl : List (Str × Addr)) (fp : List Addr), PTs (X.blk s H scope (compEnvC scope cl C X.env) fp) ifs (tT g W0 mt))
    (hi1 : ∀ (s : Shared) (H : Hp) (C : Addr) (cl : List (Str × Addr)) (fp : List Addr), PI (X.blk s H scope (compEnvC scope cl C X.env) fp) tg1 iter1 (tI g W0 m1))
    (hg1 : ∀ (s : Shared) (H : Hp) (C : Addr) (cl : List (Str × Addr)) (fp : List Addr), PG (X.blk s H scope (compEnvC scope cl C X.env) fp) tg1 tgt1) (G1 : GS g us1 tgt1 bd1) (hu1 : ∀ i ∈ us1, i ∈ vs1)
    (ht1 : ∀ (s : Shared) (H : Hp) (C : Addr) (cl : List (Str × Addr)) (fp : List Addr), PTs (X.blk s H scope (compEnvC scope cl C X.env) fp) ifs1 (tT g W0 mt1))
    (he : ∀ (s : Shared) (H : Hp) (C : Addr) (cl : List (Str × Addr)) (fp : List Addr), PE (X.blk s H scope (compEnvC scope cl C X.env) fp) elt (tE g W0 me)) (hs : ∀ x, foldedSetIterable iter X.env x = pure x := by intro _; rfl) (hs1 : ∀ env x, foldedSetIterable iter1 env x = pure x := by intro _ _; rfl) :
    PE X (.ListComp elt [⟨tg, iter, ifs, 0⟩, ⟨tg1, iter1, ifs1, 0⟩] scope pos) (tE g Wx (dLc2 m (own.map (·.2)) bd mt m1 vs1 bd1 mt1 me)) :=
  weak (pe_lc2 hc hN hi ok hv hg ht hi1 hg1 ht1 he hs hs1) fun σ H Q q => lc2_reads G hu G1 hu1 q
end
end M

set_option Elab.async false
set_option linter.all false
set_option maxRecDepth 100000
set_option maxHeartbeats 4000000
namespace M
open PySem PySem.Spec PyProof.Rows L2

/-! ### how many distinct -/
def memI (x : List Int) : List (List Int) → Bool
  | [] => false
  | y :: r => match decide (x = y) with | true => true | false => memI x r
def dd : List (List Int) → List (List Int)
  | [] => []
  | x :: r => match memI x r with | true => dd r | false => x :: dd r
theorem memI_iff {x : List Int} : ∀ {l : List (List Int)}, memI x l = true ↔ x ∈ l
  | [] => by simp [memI]
  | y :: r => by
    unfold memI
    by_cases e : x = y
    · simp [e]
    · simp [e, memI_iff (l := r)]
theorem dd_mem {x : List Int} : ∀ {l : List (List Int)}, x ∈ dd l ↔ x ∈ l
  | [] => by simp [dd]
  | y :: r => by
    unfold dd
    cases e : memI y r with
    | true =>
      simp only [dd_mem (l := r), List.mem_cons]
      exact ⟨.inr, fun h => h.elim (fun q => by rw [q]; exact memI_iff.mp e) id⟩
    | false => simp only [List.mem_cons, dd_mem (l := r)]
theorem dd_nodup : ∀ {l : List (List Int)}, (dd l).Nodup
  | [] => by simp [dd]
  | y :: r => by
    unfold dd
    cases e : memI y r with
    | true => exact dd_nodup
    | false =>
      refine List.nodup_cons.mpr ⟨fun h => ?_, dd_nodup⟩
      rw [dd_mem, ← memI_iff, e] at h
      cases h
theorem nodup_le : ∀ {l m : List (List Int)}, l.Nodup → (∀ x ∈ l, x ∈ m) → l.length ≤ m.length
  | [], _, _, _ => Nat.zero_le _
  | x :: r, m, hn, hs => by
    obtain ⟨h1, h2⟩ := List.nodup_cons.mp hn
    have hx := hs x List.mem_cons_self
    have := nodup_le (l := r) (m := m.erase x) h2 fun y hy => (List.mem_erase_of_ne (fun q => h1 (by rw [← q]; exact hy))).mpr (hs y (List.mem_cons_of_mem _ hy))
    rw [List.length_erase_of_mem hx] at this
    have : 0 < m.length := List.length_pos_of_mem hx
    simp only [List.length_cons]
    omega
theorem nodup_len {l m : List (List Int)} (hn : l.Nodup) (h : ∀ x, x ∈ l ↔ x ∈ m) : l.length = (dd m).length :=
  Nat.le_antisymm (nodup_le hn fun x hx => dd_mem.mpr ((h x).mp hx)) (nodup_le dd_nodup fun x hx => (h x).mpr (dd_mem.mp hx))

/-! ### len(set(xs)) -/
def rLenSet (P : Program) (w : World) : List V → Hp → VK → Prop := fun xs H Q => ∃ a L, xs = [V.ref a] ∧ H a = some (SetTO P w a L) ∧ ((L.map (·.2)).Nodup → Q (.int ((L.length : Nat) : Int)) H)
section
variable {g : Gd} {X : Cx} {Wx : WX} {e a b c : Expr} {pos : Pos} {tg : Expr}
theorem cr_lenSet : CallR X (.builtin "len") (rLenSet X.prog X.w) := by
  intro pins s σ H xs us Q I r h
  obtain ⟨a, L, rfl, ha, q⟩ := h
  rw [Vals.ref1 r]
  have R0 : SetT0 X.prog X.w s.heap a L := (I.hok a _ ha).1
  obtain ⟨es, ep, t, ⟨o, ho, hex, hd⟩, hrows, htab, hnd, hpl, hled, hroom, hfew⟩ := R0.ex
  have hsz : es.size = L.length := by
    have : es.toList.length = L.length := by rw [hrows]; unfold rowsOf; simp
    simpa using this
  have hf : t.fits es.size = true := by
    have h1 := htab.sz
    rw [List.length_map] at h1
    unfold SetTable.fits SetTable.fill
    rw [htab.dm, Bool.and_eq_true, beq_iff_eq, decide_eq_true_eq]
    show t.place.size = es.size ∧ t.place.size + 0 ≤ t.mask
    omega
  refine call_len_set ho hex hd hf (by rw [hsz]; omega) ?_
  rw [hsz]
  exact ⟨.int ((L.length : Nat) : Int), H, I.tok _, ⟨_, rfl⟩, q hnd⟩
def allT : List W → Option (List (List Int))
  | [] => some []
  | x :: r => match tInts x, allT r with
    | some is, some l => some (is :: l)
    | _, _ => none
theorem allT_ok {ρ n H} : ∀ {xs : List W} {ls : List (List Int)} {vs : List V}, allT xs = some ls → RelWs g ρ n H xs vs → ∃ ks : List (Addr × List Int), vs = ks.map (fun p => V.ref p.1) ∧ (∀ p ∈ ks, SqT g.K H p.1 (p.2.map V.int)) ∧ ks.map (·.2) = ls
  | [], ls, vs, e, r => by
    unfold allT at e
    injection e with e
    exact ⟨[], r.inv_nil, by simp, by rw [← e]; rfl⟩
  | x :: xs, ls, vs, e, r => by
    unfold allT at e
    split at e
    · rename_i is l e1 e2
      injection e with e
      obtain ⟨v, u, rfl, r1, r2⟩ := r.inv_cons
      obtain ⟨a, rfl, h1⟩ := tInts_ok r1 e1
      obtain ⟨ks, rfl, h2, h3⟩ := allT_ok e2 r2
      refine ⟨(a, is) :: ks, rfl, fun p hp => ?_, by rw [← e, ← h3]; rfl⟩
      rcases List.mem_cons.mp hp with q | q
      · rw [q]; exact h1
      · exact h2 p q
    · cases e
def fLenSet (xs : List W) (h : MH) : Res W := match xs with
  | [w] => (match litems w h with
    | some ys => (match allT ys with
      | some ls => (match Nat.blt ls.length 64 with
        | true => .ok (.int (((dd ls).length : Nat) : Int)) h
        | false => .stuck)
      | none => .stuck)
    | none => .stuck)
  | _ => .stuck
theorem m_lenSet (hK : X.K = g.K) (hcalm : X.calm = true) {k : Nat} (hr : Room k X.A) {p p2 pos2 : Pos} {ra : Dn (List W)} (hg : Gl X "len") (hm : X.mg "len" = none) (hg2 : Gl X "set") (hm2 : X.mg "set" = none) (ha : PA X [e] (tA g Wx ra))
    (he : starEach [e] X.env = (false, eval e X.env) :: starEach [] X.env := by rfl) :
    PE X (.Call (.Name "len" p) [.Call (.Name "set" p2) [e] [] pos2] [] pos) (tE g Wx (dOne fLenSet ra)) := by
  have inner : PE X (.Call (.Name "set" p2) [e] [] pos2) _ := pe_callTy (cr_setOfT hcalm hr.units) hg2 hm2 (by decide +kernel) ha (by decide) (by decide) he
  have outer : PE X (.Call (.Name "len" p) [.Call (.Name "set" p2) [e] [] pos2] [] pos) _ := pe_callB cr_lenSet hg hm (by decide +kernel) (pa_cons inner pa_nil rfl) (by decide) (by decide)
  refine weak outer fun σ H Q q => ?_
  refine one_reads (R1 := RelWs g) q fun ρ h H x vx S r f => ?_
  unfold fLenSet at f
  split at f
  · rename_i w
    split at f
    · rename_i ys e1
      split at f
      · rename_i ls e2
        split at f
        · rename_i e3
          obtain ⟨v, rfl, r1⟩ := one_of r
          obtain ⟨a, us, rfl, hs, rr⟩ := litems_ok S r1 e1
          obtain ⟨ks, rfl, h2, h3⟩ := allT_ok e2 rr
          have hl : ks.length < 64 := by
            have := blt_ok e3
            rw [← h3, List.length_map] at this
            exact this
          refine ⟨a, ks, rfl, by rw [hK]; exact hs, fun p hp => by rw [hK]; exact h2 p hp, hl, fun b L hb hsub hall => ?_⟩
          refine ⟨b, L, rfl, upd_same, fun nd => ?_⟩
          have : L.length = (dd ls).length := by
            have := nodup_len (m := ls) nd fun x => by
              rw [← h3]
              constructor
              · intro hx
                obtain ⟨p, hp, e⟩ := List.mem_map.mp hx
                exact List.mem_map.mpr ⟨p, hsub p hp, e⟩
              · intro hx
                obtain ⟨p, hp, e⟩ := List.mem_map.mp hx
                rw [← e]
                exact hall p hp
            rw [List.length_map] at this
            exact this
          rw [this]
          exact f ρ _ _ (Ext.out S hb) (Sim.out S hb) (by simp only [RelW])
        · exact f.elim
      · exact f.elim
    · exact f.elim
  · exact f.elim

/-! ### list(range(n)) -/
def rgW (n : Int) : List W := (List.range n.toNat).map fun i => W.int ((i : Nat) : Int)
def fListRg (w : W) (h : MH) : Res W := match w with
  | .int n => (match decide (0 ≤ n ∧ n ≤ 1000000) with
    | true => .ok (.ref h.n) (h.push (.lst (rgW n)))
    | false => .stuck)
  | _ => .stuck
theorem rgW_ok {ρ n H} (m : Int) : RelWs g ρ n H (rgW m) (rgV 0 m) := by
  unfold rgW rgV
  have : ∀ l : List Nat, RelWs g ρ n H (l.map fun i => W.int ((i : Nat) : Int)) (l.map fun i => V.int (0 + (i : Nat))) := by
    intro l
    induction l with
    | nil => exact RelWs.nil
    | cons i l ih => exact .cons (by simp only [RelW, Int.zero_add]) ih
  have e : (m - 0).toNat = m.toNat := by rw [Int.sub_zero]
  rw [e]
  exact this _
theorem m_listRg {ma : Dn W} {p p2 pos2 : Pos} (hc : X.calm = true) (hg : Gl X "list") (hm : X.mg "list" = none) (hg2 : Gl X "range") (hm2 : X.mg "range" = none) (ha : PE X a (tE g Wx ma))
    (na : starEach [a] X.env = (false, eval a X.env) :: starEach [] X.env := by rfl) : PE X (.Call (.Name "list" p) [.Call (.Name "range" p2) [a] [] pos2] [] pos) (tE g Wx (dOne fListRg ma)) :=
  weak (pe_listRg hc hg hm (prg_1 hg2 hm2 ha na)) fun σ H Q q => one_reads (R1 := RelW g) q fun ρ h H x vx S r f => by
    unfold fListRg at f
    split at f
    · rename_i n
      split at f
      · rename_i e
        have e' := of_decide_eq_true e
        simp only [RelW] at r
        exact ⟨n, r, RgOk.of_le (Int.le_refl _) (by omega) (by omega) e'.1, fun p hp => f.push S (rgW_ok n) hp⟩
      · exact f.elim
    · exact f.elim
end
end M

set_option Elab.async false
set_option linter.all false
set_option maxRecDepth 100000
set_option maxHeartbeats 4000000
namespace M
open PySem PySem.Spec PyProof.Rows L2

/-! ### products, one factor small -/
section
variable {g : Gd} {X : Cx} {Wx : WX} {e a b c : Expr} {pos : Pos} {tg : Expr}
def small64 (i : Int) : Bool := decide (-(2 ^ 64) < i ∧ i < 2 ^ 64)
def cMulB (i j : Int) : Bool := match small64 j with
  | true => true
  | false => (match small64 i with | true => true | false => cMul i j)
def fMulB := f2I (kIf cMulB fun i j => i * j)
theorem op_mulAny : OpR X (binaryOp .Mult) (rI (fun i j => CMul i j ∨ CMulW i j) fun i j => .int (i * j)) :=
  opI fun _ _ _ _ _ _ _ hc q => mul_int q (hc.elim (fun h => h.ok) fun h => h.ok)
theorem cMulB_ok (i j : Int) (e : cMulB i j = true) : CMul i j ∨ CMulW i j := by
  unfold cMulB at e
  split at e
  · rename_i q; exact .inl (.inr (of_decide_eq_true q))
  · split at e
    · rename_i q; exact .inl (.inl (of_decide_eq_true q))
    · exact .inr (cMul_ok i j e)
theorem m_mulB {ma mb : Dn W} (ha : PE X a (tE g Wx ma)) (hb : PE X b (tE g Wx mb)) : PE X (.BinOp a .Mult b pos) (tE g Wx (dOp fMulB ma mb)) := m_op op_mulAny (oIf cMulB_ok) ha hb
def fMulC (x y : W) (h : MH) : Res W := match x with
  | .int _ => fMulB x y h
  | _ => fRep x y h
theorem oMulC : OpS g (fun x y H Q => (rI (fun i j => CMul i j ∨ CMulW i j) fun i j => .int (i * j)) x y H Q ∨ rRep x y H Q) fMulC := by
  intro ρ h H x y vx vy Q E S r1 r2 f
  cases x with
  | int i => exact .inl ((oIf cMulB_ok) ρ h H _ y vx vy Q E S r1 r2 f)
  | _ => exact .inr (oRep ρ h H _ y vx vy Q E S r1 r2 f)
theorem m_mulC {ma mb : Dn W} (ha : PE X a (tE g Wx ma)) (hb : PE X b (tE g Wx mb)) : PE X (.BinOp a .Mult b pos) (tE g Wx (dOp fMulC ma mb)) := m_op (op_mulAny.or op_rep) oMulC ha hb

/-! ### a name of a comprehension of two clauses -/
theorem ms_setLc2 {us us1 : List Nat} {i : Nat} {y : Str} {py : Pos} {elt iter tg1 iter1 : Expr} {ifs ifs1 : List Expr} {scope : Scope} {own : List (Str × Nat)} {vs1 : List Nat} {tgt tgt1 : TG} {bd bd1 : W → WS → Option WS} {m m1 : Dn Nx} {mt mt1 : Dn Bool} {me : Dn W} {spos : Pos} (hc : X.calm = true) (hN : X.N.Nodup) (hy : X.N[i]? = some y) (hyl : X.env.scope.names.lookup y = some .local)
    (hsw : swapsWith (.ListComp elt [⟨tg, iter, ifs, 0⟩, ⟨tg1, iter1, ifs1, 0⟩] scope pos) (some (.Name y py)) spos.line X.env = pure true) (hi : PI X tg iter (tI g Wx m)) (ok : BlkOk X.N X.env.scope scope own) (hv : ∀ i ∈ vs1, i ∈ own.map (·.2))
    (hg : ∀ (s : Shared) (H : Hp) (C : Addr) (cl : List (Str × Addr)) (fp : List Addr), PG (X.blk s H scope (compEnvC scope cl C X.env) fp) tg tgt) (G : GS g us tgt bd) (hu : ∀ i ∈ us, i ∈ own.map (·.2))
    (ht : ∀ (s : Shared) (H : Hp) (C : Addr) (cl : List (Str × Addr)) (fp : List Addr), PTs (X.blk s H scope (compEnvC scope cl C X.env) fp) ifs (tT g W0 mt))
    (hi1 : ∀ (s : Shared) (H : Hp) (C : Addr) (cl : List (Str × Addr)) (fp : List Addr), PI (X.blk s H scope (compEnvC scope cl C X.env) fp) tg1 iter1 (tI g W0 m1))
    (hg1 : ∀ (s : Shared) (H : Hp) (C : Addr) (cl : List (Str × Addr)) (fp : List Addr), PG (X.blk s H scope (compEnvC scope cl C X.env) fp) tg1 tgt1) (G1 : GS g us1 tgt1 bd1) (hu1 : ∀ i ∈ us1, i ∈ vs1)
    (ht1 : ∀ (s : Shared) (H : Hp) (C : Addr) (cl : List (Str × Addr)) (fp : List Addr), PTs (X.blk s H scope (compEnvC scope cl C X.env) fp) ifs1 (tT g W0 mt1))
    (he : ∀ (s : Shared) (H : Hp) (C : Addr) (cl : List (Str × Addr)) (fp : List Addr), PE (X.blk s H scope (compEnvC scope cl C X.env) fp) elt (tE g W0 me)) (hs : ∀ x, foldedSetIterable iter X.env x = pure x := by intro _; rfl) (hs1 : ∀ env x, foldedSetIterable iter1 env x = pure x := by intro _ _; rfl) :
    PS X (.Assign [.Name y py] (.ListComp elt [⟨tg, iter, ifs, 0⟩, ⟨tg1, iter1, ifs1, 0⟩] scope pos) spos) (tS g Wx (dAsg (dLc2 m (own.map (·.2)) bd mt m1 vs1 bd1 mt1 me) (bName i))) :=
  weakS (ps_setLc2 hc hN hy hyl hsw hi ok hv hg ht hi1 hg1 ht1 he hs hs1) fun D σ H q => by
    obtain ⟨ρ, ws, h, S, sl, fin⟩ := asg_reads (gs_name i) q
    exact lc2_reads G hu G1 hu1 ⟨ρ, ws, h, S, sl, fin⟩
end

/-! ### defs by their names -/
structure DefAt (K : PySem.W.Frag) (mg : Str → Option Value) (x : Str) (st : Stmt) (ps : List Str) : Prop where
  ex : ∃ f fd, L2.Fun K x x st f fd ∧ Binds K fd ps [] ∧ mg x = some (.ref f)
structure Ok (g : Gd) (P : Program) (w : World) (mg : Str → Option Value) (base : Heap) (x : Str) (m : List W → MH → Res W) (np k : Nat) : Prop where
  ex : ∃ f fd ps, FnOk P w g.K mg base (L2.CX P w) k f fd ps (spM g m np) ∧ mg x = some (.ref f) ∧ PySem.W.keepIn g.K (.ref f) = true ∧ Binds g.K fd ps [] ∧
    (∃ oc od osl, g.K.lookup f = some ⟨oc, od, .func fd, osl⟩) ∧ ps = fd.params.args.map (·.arg)
section
variable {P : Program} {w : World} {mg : Str → Option Value} {base : Heap} {g : Gd}
theorem Ok.mono {x : Str} {m : List W → MH → Res W} {np k j : Nat} (F : Ok g P w mg base x m np k) (h : k ≤ j) : Ok g P w mg base x m np j := by
  obtain ⟨f, fd, ps, a, b⟩ := F.ex
  exact ⟨f, fd, ps, a.mono h, b⟩
theorem fun_at {K : PySem.W.Frag} {x q : Str} {st : Stmt} {f : Addr} {fd : FuncData} (F : L2.Fun K x q st f fd) : (∃ oc od osl, K.lookup f = some ⟨oc, od, .func fd, osl⟩) ∧ fd.params = defArgs st := by
  obtain ⟨oc, od, kV, doc, pm, an, cdv, ct, osl, rfl, lk, _⟩ := F.ex
  exact ⟨⟨oc, od, osl, lk⟩, rfl⟩
theorem ok_def {x : Str} {st : Stmt} {N ps : List Str} {k : Nat} {body : DS} (D : DefAt g.K mg x st ps) (S : FnScope N ps (defScope st)) (np nl : Nat) (hnp : ps.length = np) (hnl : N.length - np = nl)
    (hbody : ∀ (f : Addr) (cdv : Value) (A : Around) (outer : List Env) (s : Shared) (H : Hp) (E : XK), Room k (A.deeper (envOfC x (defScope st) s.heap.objs.size f cdv)) →
      PSs (cxOf (L2.CX P w) P w g.K mg base N x (defScope st) f cdv A outer s H E) (defBody st) (tS g (fun cls d _ H' => E cls d H') body)) (hps : ps = (defArgs st).args.map (·.arg) := by rfl) :
    Ok g P w mg base x (mFun np nl body) np (k + 1) := by
  obtain ⟨f, fd, F, hb, hm⟩ := D.ex
  exact ⟨f, fd, ps, fun_ok F S np nl hnp hnl (hbody f), hm, F.kp, hb, (fun_at F).1, by rw [(fun_at F).2]; exact hps⟩
/-- no fuel -/
theorem ok_none {x : Str} {st : Stmt} {N ps : List Str} {k : Nat} (D : DefAt g.K mg x st ps) (S : FnScope N ps (defScope st)) (np : Nat) (hnp : ps.length = np) (hps : ps = (defArgs st).args.map (·.arg) := by rfl) : Ok g P w mg base x (fun _ _ => .stuck) np (k + 1) := by
  obtain ⟨f, fd, F, hb, hm⟩ := D.ex
  refine ⟨f, fd, ps, F.okX S (fun vs H Q E h => by rw [h.1, hnp]) fun cdv A outer s H vs Q E hr hsp => ?_, hm, F.kp, hb, (fun_at F).1, by rw [(fun_at F).2]; exact hps⟩
  obtain ⟨_, ρ, ws, h, _, _, fin⟩ := hsp
  exact fin.elim
theorem tab_of {lv : Nat} {tab : Nat → Option (Nat × (List W → MH → Res W))} (h : ∀ k np m, tab k = some (np, m) → ∃ x, Ok g P w mg base x m np lv ∧ mg x = some (.ref (g.fad k))) : TabOk g P w mg base lv tab := ⟨fun k np m e => by
  obtain ⟨x, F, hx⟩ := h k np m e
  obtain ⟨f, fd, ps, a, b, c, d, _⟩ := F.ex
  rw [hx] at b
  cases b
  exact ⟨fd, ps, a, c, d⟩⟩
end
section
variable {g : Gd} {X : Cx} {Wx : WX} {e a b c : Expr} {pos : Pos} {tg : Expr}
theorem m_cO {k np : Nat} {m : List W → MH → Res W} {x : Str} {p : Pos} {es : List Expr} {r : Dn (List W)} (F : Ok g X.prog X.w X.mg X.base x m np k) (hK : X.K = g.K) (hr : Room k X.A) (hg : Gl X x)
    (tk : Takes X Wx) (ha : PA X (e :: es) (tA g Wx r)) (hdb : (x == ("__debug__" : Str)) = false := by decide)
    (he : starEach (e :: es) X.env = (false, eval e X.env) :: starEach es X.env := by rfl) (hpl : (backTo pos (starEach es X.env)).any (·.1) = false := by rfl) :
    PE X (.Call (.Name x p) (e :: es) [] pos) (tE g Wx (dOne (chkN np m) r)) := by
  obtain ⟨f, fd, ps, F, hm, hk, hb, _⟩ := F.ex
  rw [← hK] at F hk hb
  exact m_call F hr hg hm hk hb tk ha hdb he hpl
theorem m_cO0 {k : Nat} {m : List W → MH → Res W} {x : Str} {p : Pos} (F : Ok g X.prog X.w X.mg X.base x m 0 k) (hK : X.K = g.K) (hr : Room k X.A) (hg : Gl X x) (tk : Takes X Wx) (hdb : (x == ("__debug__" : Str)) = false := by decide) :
    PE X (.Call (.Name x p) [] [] pos) (tE g Wx (dCall0 m)) := by
  obtain ⟨f, fd, ps, F, hm, hk, hb, _⟩ := F.ex
  rw [← hK] at F hk hb
  exact m_call0 F hr hg hm hk hb tk hdb
end

/-! ### a call that neither takes nor tells own lists, run in an empty heap -/
mutual
def noRef : W → Bool
  | .tup xs => noRefs xs
  | .fro xs => noRefs xs
  | .ref _ => false
  | _ => true
def noRefs : List W → Bool
  | [] => true
  | x :: xs => match noRef x with | true => noRefs xs | false => false
end
section
variable {g : Gd} {ρ ρ' : Nat → Addr} {n n' : Nat} {H : Hp}
mutual
theorem RelW.any : ∀ {x : W} {v : V}, noRef x = true → RelW g ρ n H x v → RelW g ρ' n' H x v
  | .non, _, _, e => e
  | .bl _, _, _, e => e
  | .int _, _, _, e => e
  | .str _, _, _, e => e
  | .tup xs, _, q, e => by
    unfold RelW at e ⊢
    obtain ⟨a, vs, e1, e2, e3⟩ := e
    exact ⟨a, vs, e1, e2, RelWs.any (by simpa only [noRef] using q) e3⟩
  | .fro xs, _, q, e => by
    unfold RelW at e ⊢
    obtain ⟨a, vs, e1, e2, e3⟩ := e
    exact ⟨a, vs, e1, e2, RelWs.any (by simpa only [noRef] using q) e3⟩
  | .ref k, _, q, e => by simp only [noRef] at q; cases q
  | .fn _, _, _, e => e
  | .opq, _, _, e => e
  | .ty _, _, _, e => e
theorem RelWs.any : ∀ {xs : List W} {vs : List V}, noRefs xs = true → RelWs g ρ n H xs vs → RelWs g ρ' n' H xs vs
  | [], _, _, e => by rw [e.inv_nil]; exact RelWs.nil
  | x :: xs, _, q, e => by
    obtain ⟨v, r, rfl, e2, e3⟩ := e.inv_cons
    simp only [noRefs] at q
    split at q
    · rename_i q1
      exact .cons (RelW.any q1 e2) (RelWs.any q e3)
    · cases q
end
end
theorem noRefs_mem : ∀ {xs : List W} {x : W}, noRefs xs = true → x ∈ xs → noRef x = true
  | [], _, _, h => by cases h
  | y :: ys, x, q, h => by
    simp only [noRefs] at q
    split at q
    · rename_i q1
      rcases List.mem_cons.mp h with z | z
      · rw [z]; exact q1
      · exact noRefs_mem q z
    · cases q
def mIso (m : List W → MH → Res W) : List W → MH → Res W := fun ws h => match noRefs ws with
  | true => (match m ws ⟨0, []⟩ with
    | .ok w _ => (match noRef w with | true => .ok w h | false => .stuck)
    | .exc c fs _ => (match noRefs (fs.map (·.2)) with | true => .exc c fs h | false => .stuck)
    | _ => .stuck)
  | false => .stuck
section
variable {g : Gd} {ρ : Nat → Addr} {h : MH} {H H' : Hp}
theorem iso_ext (S : Sim g ρ h H) {ρ' : Nat → Addr} {n' : Nat} (E : Ext ρ 0 H ρ' n' H') : Ext ρ h.n H ρ h.n H' where
  le := Nat.le_refl _
  eq := fun _ _ => rfl
  tups := E.tups
  frzs := E.frzs
  keep := fun a o e _ nt => E.keep a o e (fun i hi => absurd hi (Nat.not_lt_zero i)) nt
  kept := E.kept
  new := fun i a b => absurd b (Nat.not_lt.mpr a)
  there := fun i hi => by
    have z := S.ne hi
    cases q : H (ρ i) with
    | none => exact absurd q z
    | some o => rw [E.keep _ o q (fun i hi => absurd hi (Nat.not_lt_zero i)) (S.noTb hi q)]; simp
theorem iso_sim (S : Sim g ρ h H) {ρ' : Nat → Addr} {n' : Nat} (E : Ext ρ 0 H ρ' n' H') (tb : LamX.Tabs g.tb H') : Sim g ρ h H' := by
  have X := iso_ext S E
  refine ⟨fun i o e => ?_, S.has, S.inj, tb⟩
  obtain ⟨hi, r⟩ := S.at_ i o e
  refine ⟨hi, ?_⟩
  have : H' (ρ i) = H (ρ i) := by
    cases q : H (ρ i) with
    | none => exact absurd q (S.ne hi)
    | some o => exact E.keep _ o q (fun i hi => absurd hi (Nat.not_lt_zero i)) (S.noTb hi q)
  rw [this]
  exact r.ext X
theorem sim_none (tb : LamX.Tabs g.tb H) : Sim g ρ ⟨0, []⟩ H := ⟨fun i o e => by simp [MH.get, getT] at e, fun i hi => absurd hi (Nat.not_lt_zero i), fun i j hi => absurd hi (Nat.not_lt_zero i), tb⟩
end
section
variable {P : Program} {w : World} {mg : Str → Option Value} {base : Heap} {g : Gd}
theorem Ok.iso {x : Str} {m : List W → MH → Res W} {np k : Nat} (F : Ok g P w mg base x m np k) : Ok g P w mg base x (mIso m) np k := by
  obtain ⟨f, fd, ps, a, b⟩ := F.ex
  refine ⟨f, fd, ps, a.imp fun vs H Q E q => ?_, b⟩
  obtain ⟨hl, ρ, ws, h, S, r, fin⟩ := q
  unfold mIso at fin
  split at fin
  · rename_i q1
    refine ⟨hl, ρ, ws, ⟨0, []⟩, sim_none S.tb, RelWs.any q1 r, ?_⟩
    split at fin
    · rename_i u h' e
      split at fin
      · rename_i q2
        rw [e]
        exact fun ρ' H' v X s rv => fin ρ H' v (iso_ext S X) (iso_sim S X s.tb) (RelW.any q2 rv)
      · exact fin.elim
    · rename_i c fs h' e
      split at fin
      · rename_i q2
        rw [e]
        exact fun ρ' H' cls d X s rx => fin ρ H' cls d (iso_ext S X) (iso_sim S X s.tb) ⟨rx.1, rx.2.1, fun f w e => by
          obtain ⟨dd, kvs, v, e1, e2, e3, e4⟩ := rx.2.2 f w e
          exact ⟨dd, kvs, v, e1, e2, e3, RelW.any (noRefs_mem q2 (List.mem_map.mpr ⟨(f, w), PySem.mem_of_lookup e, rfl⟩)) e4⟩⟩
      · exact fin.elim
    · exact fin.elim
  · exact fin.elim
end

/-! ### own exceptions -/
abbrev bmVE : List Value := [.type "ValueError", .type "Exception", .type "BaseException", .type "object"]
structure ExcAt (g : Gd) (mg : Str → Option Value) (x : Str) (k : Nat) : Prop where
  q : PySem.W.excIn g.K (g.cad k) bmVE "ValueError.__new__" = true
  m : mg x = some (.ref (g.cad k))
  kp : PySem.W.keepIn g.K (.ref (g.cad k)) = true
  sub : PySem.W.subIn g.K (.ref (g.cad k)) (.type "BaseException") = some true
  ty : PySem.W.typeIn g.K (.ref (g.cad k)) = some (.type "type")
  cl : PySem.W.isClsIn g.K (g.cad k) = true
  ex : ExcC g.K (g.cad k)
  kit : PySem.W.kitOne g.K (.ref (g.cad k)) (.type "ValueError") = some true
theorem exm_any {K : PySem.W.Frag} {S C : Addr} {b : Bool} (h1 : PySem.W.subIn K (.ref C) (.type "BaseException") = some true) (h2 : PySem.W.isClsIn K S = true) (h0 : PySem.W.subIn K (.ref S) (.type "BaseException") = some true) (h3 : PySem.W.typeIn K (.ref S) = some (.type "type")) (h4 : PySem.W.subIn K (.ref C) (.ref S) = some b) :
    PySem.W.exmOne K (.ref C) (.ref S) = some b := by
  have e1 : (PySem.W.subIn K (.ref S) (.type "BaseException") == some true) = true := by rw [h0] <;> rfl
  have e2 : ((PySem.W.clsIn K S).isSome && PySem.W.typeIn K (.ref S) == some (.type "type")) = true := by
    have h2' : (PySem.W.clsIn K S).isSome = true := h2
    rw [h2', h3] <;> rfl
  show (if (PySem.W.subIn K (.ref S) (.type "BaseException") == some true) = true then (if ((PySem.W.clsIn K S).isSome && PySem.W.typeIn K (.ref S) == some (.type "type")) = true then PySem.W.subIn K (.ref C) (.ref S) else none) else none) = some b
  rw [if_pos e1, if_pos e2]
  exact h4
section
variable {g : Gd} {X : Cx} {Wx : WX} {e a b c : Expr} {pos : Pos} {tg : Expr}
theorem ms_raiseX {k : Nat} {x : Str} {p p' : Pos} (hK : X.K = g.K) (F : ExcAt g X.mg x k) (hc : X.calm = true) (tk : Takes X Wx) (hg : Gl X x) (hdb : (x == ("__debug__" : Str)) = false := by decide) :
    PS X (.Raise (some (.Call (.Name x p) [] [] p')) none pos) (tS g Wx (dRaise0 k)) :=
  ms_raise0 hc tk PySem.F.excBase_ValueError (by rw [hK]; exact F.q) F.m (by rw [hK]; exact F.kp) (raises_own (by rw [hK]; exact F.sub) (by rw [hK]; exact F.ty)) hg hdb
end
end M

set_option Elab.async false
set_option linter.all false
set_option maxRecDepth 100000
set_option maxHeartbeats 4000000
namespace M
open PySem PySem.Spec PyProof.Rows L2
section
variable {g : Gd} {X : Cx} {Wx : WX} {e a b c : Expr} {pos : Pos} {tg : Expr}
theorem x_len (hK : X.K = g.K) {p : Pos} {es : List Expr} {ra : Dn (List W)} (hg : Gl X "len") (hm : X.mg "len" = none) (ha : PA X (e :: es) (tA g Wx ra)) (he : starEach (e :: es) X.env = (false, eval e X.env) :: starEach es X.env := by rfl) (hpl : (backTo pos (starEach es X.env)).any (·.1) = false := by rfl) :
    PE X (.Call (.Name "len" p) (e :: es) [] pos) (tE g Wx (dOne fLen ra)) := m_callB call_len (by first | exact oLen | (rw [hK]; exact oLen)) hg hm (by decide +kernel) ha (by decide) (by decide) he hpl
theorem x_abs (hK : X.K = g.K) {p : Pos} {es : List Expr} {ra : Dn (List W)} (hg : Gl X "abs") (hm : X.mg "abs" = none) (ha : PA X (e :: es) (tA g Wx ra)) (he : starEach (e :: es) X.env = (false, eval e X.env) :: starEach es X.env := by rfl) (hpl : (backTo pos (starEach es X.env)).any (·.1) = false := by rfl) :
    PE X (.Call (.Name "abs" p) (e :: es) [] pos) (tE g Wx (dOne fAbs ra)) := m_callB call_abs (by first | exact oAbs | (rw [hK]; exact oAbs)) hg hm (by decide +kernel) ha (by decide) (by decide) he hpl
theorem x_max2 (hK : X.K = g.K) (hc : X.calm = true) {p : Pos} {es : List Expr} {ra : Dn (List W)} (hg : Gl X "max") (hm : X.mg "max" = none) (ha : PA X (e :: es) (tA g Wx ra)) (he : starEach (e :: es) X.env = (false, eval e X.env) :: starEach es X.env := by rfl) (hpl : (backTo pos (starEach es X.env)).any (·.1) = false := by rfl) :
    PE X (.Call (.Name "max" p) (e :: es) [] pos) (tE g Wx (dOne fMax2 ra)) := m_callB (call_max2 hc) (by first | exact oMax2 | (rw [hK]; exact oMax2)) hg hm (by decide +kernel) ha (by decide) (by decide) he hpl
theorem x_min2 (hK : X.K = g.K) (hc : X.calm = true) {p : Pos} {es : List Expr} {ra : Dn (List W)} (hg : Gl X "min") (hm : X.mg "min" = none) (ha : PA X (e :: es) (tA g Wx ra)) (he : starEach (e :: es) X.env = (false, eval e X.env) :: starEach es X.env := by rfl) (hpl : (backTo pos (starEach es X.env)).any (·.1) = false := by rfl) :
    PE X (.Call (.Name "min" p) (e :: es) [] pos) (tE g Wx (dOne fMin2 ra)) := m_callB (call_min2 hc) (by first | exact oMin2 | (rw [hK]; exact oMin2)) hg hm (by decide +kernel) ha (by decide) (by decide) he hpl
theorem x_max1 (hK : X.K = g.K) (hc : X.calm = true) {p : Pos} {es : List Expr} {ra : Dn (List W)} (hg : Gl X "max") (hm : X.mg "max" = none) (ha : PA X (e :: es) (tA g Wx ra)) (he : starEach (e :: es) X.env = (false, eval e X.env) :: starEach es X.env := by rfl) (hpl : (backTo pos (starEach es X.env)).any (·.1) = false := by rfl) :
    PE X (.Call (.Name "max" p) (e :: es) [] pos) (tE g Wx (dOne fMax1 ra)) := m_callB (cr_max hc) (by first | exact oMax1 | (rw [hK]; exact oMax1)) hg hm (by decide +kernel) ha (by decide) (by decide) he hpl
theorem x_min1 (hK : X.K = g.K) (hc : X.calm = true) {p : Pos} {es : List Expr} {ra : Dn (List W)} (hg : Gl X "min") (hm : X.mg "min" = none) (ha : PA X (e :: es) (tA g Wx ra)) (he : starEach (e :: es) X.env = (false, eval e X.env) :: starEach es X.env := by rfl) (hpl : (backTo pos (starEach es X.env)).any (·.1) = false := by rfl) :
    PE X (.Call (.Name "min" p) (e :: es) [] pos) (tE g Wx (dOne fMin1 ra)) := m_callB (cr_min hc) (by first | exact oMin1 | (rw [hK]; exact oMin1)) hg hm (by decide +kernel) ha (by decide) (by decide) he hpl
theorem x_sum (hK : X.K = g.K) (hc : X.calm = true) {p : Pos} {es : List Expr} {ra : Dn (List W)} (hg : Gl X "sum") (hm : X.mg "sum" = none) (ha : PA X (e :: es) (tA g Wx ra)) (he : starEach (e :: es) X.env = (false, eval e X.env) :: starEach es X.env := by rfl) (hpl : (backTo pos (starEach es X.env)).any (·.1) = false := by rfl) :
    PE X (.Call (.Name "sum" p) (e :: es) [] pos) (tE g Wx (dOne fSum ra)) := m_callB (cr_sum hc) (by first | exact oSum | (rw [hK]; exact oSum)) hg hm (by decide +kernel) ha (by decide) (by decide) he hpl
theorem x_all (hK : X.K = g.K) (hc : X.calm = true) {p : Pos} {es : List Expr} {ra : Dn (List W)} (hg : Gl X "all") (hm : X.mg "all" = none) (ha : PA X (e :: es) (tA g Wx ra)) (he : starEach (e :: es) X.env = (false, eval e X.env) :: starEach es X.env := by rfl) (hpl : (backTo pos (starEach es X.env)).any (·.1) = false := by rfl) :
    PE X (.Call (.Name "all" p) (e :: es) [] pos) (tE g Wx (dOne fAll ra)) := m_callB (cr_all hc) (by first | exact oAll | (rw [hK]; exact oAll)) hg hm (by decide +kernel) ha (by decide) (by decide) he hpl
theorem x_any (hK : X.K = g.K) (hc : X.calm = true) {p : Pos} {es : List Expr} {ra : Dn (List W)} (hg : Gl X "any") (hm : X.mg "any" = none) (ha : PA X (e :: es) (tA g Wx ra)) (he : starEach (e :: es) X.env = (false, eval e X.env) :: starEach es X.env := by rfl) (hpl : (backTo pos (starEach es X.env)).any (·.1) = false := by rfl) :
    PE X (.Call (.Name "any" p) (e :: es) [] pos) (tE g Wx (dOne fAny ra)) := m_callB (cr_any hc) (by first | exact oAny | (rw [hK]; exact oAny)) hg hm (by decide +kernel) ha (by decide) (by decide) he hpl
theorem x_sorted (hK : X.K = g.K) {p : Pos} {es : List Expr} {ra : Dn (List W)} (hg : Gl X "sorted") (hm : X.mg "sorted" = none) (ha : PA X (e :: es) (tA g Wx ra)) (he : starEach (e :: es) X.env = (false, eval e X.env) :: starEach es X.env := by rfl) (hpl : (backTo pos (starEach es X.env)).any (·.1) = false := by rfl) :
    PE X (.Call (.Name "sorted" p) (e :: es) [] pos) (tE g Wx (dOne fSorted ra)) := m_callB (cr_sortedI.or cr_sortedPO) (by first | exact oSorted | (rw [hK]; exact oSorted)) hg hm (by decide +kernel) ha (by decide) (by decide) he hpl
theorem x_isi (hK : X.K = g.K) {p : Pos} {es : List Expr} {ra : Dn (List W)} (hg : Gl X "isinstance") (hm : X.mg "isinstance" = none) (ha : PA X (e :: es) (tA g Wx ra)) (he : starEach (e :: es) X.env = (false, eval e X.env) :: starEach es X.env := by rfl) (hpl : (backTo pos (starEach es X.env)).any (·.1) = false := by rfl) :
    PE X (.Call (.Name "isinstance" p) (e :: es) [] pos) (tE g Wx (dOne fIsi ra)) := m_callB (call_isi.or call_isiT) (by first | exact oIsi | (rw [hK]; exact oIsi)) hg hm (by decide +kernel) ha (by decide) (by decide) he hpl
theorem x_int (hK : X.K = g.K) {p : Pos} {es : List Expr} {ra : Dn (List W)} (hg : Gl X "int") (hm : X.mg "int" = none) (ha : PA X (e :: es) (tA g Wx ra)) (he : starEach (e :: es) X.env = (false, eval e X.env) :: starEach es X.env := by rfl) (hpl : (backTo pos (starEach es X.env)).any (·.1) = false := by rfl) :
    PE X (.Call (.Name "int" p) (e :: es) [] pos) (tE g Wx (dOne fInt ra)) := m_callTy call_int1 (by first | exact oInt | (rw [hK]; exact oInt)) hg hm (by decide +kernel) ha (by decide) (by decide) he hpl
theorem x_tuple (hK : X.K = g.K) {p : Pos} {es : List Expr} {ra : Dn (List W)} (hg : Gl X "tuple") (hm : X.mg "tuple" = none) (ha : PA X (e :: es) (tA g Wx ra)) (he : starEach (e :: es) X.env = (false, eval e X.env) :: starEach es X.env := by rfl) (hpl : (backTo pos (starEach es X.env)).any (·.1) = false := by rfl) :
    PE X (.Call (.Name "tuple" p) (e :: es) [] pos) (tE g Wx (dOne fTuple ra)) := m_callTy call_tuple_of (by first | exact oTuple | (rw [hK]; exact oTuple)) hg hm (by decide +kernel) ha (by decide) (by decide) he hpl
theorem x_list (hK : X.K = g.K) {p : Pos} {es : List Expr} {ra : Dn (List W)} (hg : Gl X "list") (hm : X.mg "list" = none) (ha : PA X (e :: es) (tA g Wx ra)) (he : starEach (e :: es) X.env = (false, eval e X.env) :: starEach es X.env := by rfl) (hpl : (backTo pos (starEach es X.env)).any (·.1) = false := by rfl) :
    PE X (.Call (.Name "list" p) (e :: es) [] pos) (tE g Wx (dOne fList ra)) := m_callTy call_list_of (by first | exact oList | (rw [hK]; exact oList)) hg hm (by decide +kernel) ha (by decide) (by decide) he hpl
theorem x_gcd {p : Pos} {es : List Expr} {ra : Dn (List W)} (hg : Gl X "gcd") (hm : X.mg "gcd" = some (.builtin "math.gcd")) (ha : PA X (e :: es) (tA g Wx ra)) (he : starEach (e :: es) X.env = (false, eval e X.env) :: starEach es X.env := by rfl) (hpl : (backTo pos (starEach es X.env)).any (·.1) = false := by rfl) :
    PE X (.Call (.Name "gcd" p) (e :: es) [] pos) (tE g Wx (dOne fGcd ra)) := m_callBfun cr_gcd oGcd hg hm ha (by decide) he hpl
theorem y_int (hg : Gl X "int") (hm : X.mg "int" = none) : PE X (.Name "int" pos) (tE g Wx (dC (.ty .int))) := m_ty hg hm (by decide +kernel)
theorem y_bool (hg : Gl X "bool") (hm : X.mg "bool" = none) : PE X (.Name "bool" pos) (tE g Wx (dC (.ty .bool))) := m_ty hg hm (by decide +kernel)
theorem y_str (hg : Gl X "str") (hm : X.mg "str" = none) : PE X (.Name "str" pos) (tE g Wx (dC (.ty .str))) := m_ty hg hm (by decide +kernel)
theorem y_list (hg : Gl X "list") (hm : X.mg "list" = none) : PE X (.Name "list" pos) (tE g Wx (dC (.ty .list))) := m_ty hg hm (by decide +kernel)
theorem y_tuple (hg : Gl X "tuple") (hm : X.mg "tuple" = none) : PE X (.Name "tuple" pos) (tE g Wx (dC (.ty .tuple))) := m_ty hg hm (by decide +kernel)
theorem y_dict (hg : Gl X "dict") (hm : X.mg "dict" = none) : PE X (.Name "dict" pos) (tE g Wx (dC (.ty .dict))) := m_ty hg hm (by decide +kernel)
theorem y_set (hg : Gl X "set") (hm : X.mg "set" = none) : PE X (.Name "set" pos) (tE g Wx (dC (.ty .set))) := m_ty hg hm (by decide +kernel)
/-! ### suites -/
def suiteM (m : DS) : List (Str × W) → DS := fun fs => match fs with | [] => m | _ => fun _ _ => .stuck
theorem su_any' {k i : Nat} {sts : List Stmt} {m : DS} {oe : Obj} {a : Addr} {cls : Value} {d : Option Addr} {pn : List (Addr × Obj)} (hz : Zc cls d oe) (h : Zc (.ref (g.cad k)) none oe → PSs (X.suite a ((a, oe) :: pn)) sts (tSu g k i (fun _ => m) a (.ref (g.cad k)) none)) :
    PSs (X.suite a ((a, oe) :: pn)) sts (tSu g k i (suiteM m) a cls d) := su_any hz h
end
end M

set_option Elab.async false
set_option linter.all false
set_option maxRecDepth 100000
set_option maxHeartbeats 4000000
namespace M
open PySem PySem.Spec PyProof.Rows L2
section
variable {g : Gd} {X : Cx} {Wx : WX} {e a b c : Expr} {pos : Pos} {tg : Expr}
/-! ### // by any divisor -/
def cDivB (_ j : Int) : Bool := match decide (j = 0) with | true => false | false => Nat.ble j.natAbs.log2 8999
def dvB (i j : Int) : Int := match decide (0 < j) with | true => i / j | false => i.fdiv j
theorem dvB_eq (i j : Int) : dvB i j = i.fdiv j := by
  unfold dvB
  split
  · rename_i e
    have := of_decide_eq_true e
    exact (Int.fdiv_eq_ediv_of_nonneg i (by omega)).symm
  · rfl
def fDivB := f2I (kIf cDivB dvB)
theorem cDivB_ok (i j : Int) (e : cDivB i j = true) : j ≠ 0 ∧ j.natAbs.log2 < 9000 := by
  unfold cDivB at e
  split at e
  · cases e
  · rename_i q
    have := Nat.le_of_ble_eq_true e
    exact ⟨of_decide_eq_false q, by omega⟩
theorem op_fdivB : OpR X (binaryOp .FloorDiv) (rI (fun _ j => j ≠ 0 ∧ j.natAbs.log2 < 9000) fun i j => .int (dvB i j)) := opI fun i j _ _ _ _ _ hc q => by
  rw [dvB_eq] at q
  exact floordiv_int hc.1 q (.inl (PyProof.noPylong_of_log2 hc.2))
theorem m_divB {ma mb : Dn W} (ha : PE X a (tE g Wx ma)) (hb : PE X b (tE g Wx mb)) : PE X (.BinOp a .FloorDiv b pos) (tE g Wx (dOp fDivB ma mb)) := m_op op_fdivB (oIf cDivB_ok) ha hb
def dStar (m : Dn W) (r : Dn (List W)) : Dn (List W) := fun ws h => (m ws h).bnd fun x h1 => match items x h1 with
      | some xs => (r ws h1).bnd fun ys h2 => .ok (xs ++ ys) h2
      | none => .stuck
theorem ma_star' (hK : X.K = g.K) {es : List Expr} {p : Pos} {m : Dn W} {r : Dn (List W)} (ha : PE X e (tE g Wx m)) (hr : PA X es (tA g Wx r)) (hs : starEach (.Starred e p :: es) X.env = (true, eval e X.env) :: starEach es X.env := by rfl) :
    PA X (.Starred e p :: es) (tA g Wx (dStar m r)) := ma_star hK ha hr hs
theorem ms_par3 {i j l : Nat} {x y z : Str} {m : Dn (List W)} {px py pz pt : Pos} {kt k2 pt2} (hc : X.calm = true) (hN : X.N.Nodup) (hi : X.N[i]? = some x) (hj : X.N[j]? = some y) (hl : X.N[l]? = some z) (hij : i ≠ j) (hil : i ≠ l) (hjl : j ≠ l)
    (hx : X.env.scope.names.lookup x = some .local) (hy : X.env.scope.names.lookup y = some .local) (hz : X.env.scope.names.lookup z = some .local) (ha : PA X [a, b, c] (tA g Wx m))
    (hw : swappedStores [.Tuple [.Name x px, .Name y py, .Name z pz] kt pt] (.Tuple [a, b, c] k2 pt2) X.env = pure (some [x, y, z]))
    (hs : swapsWithSole [.Tuple [.Name x px, .Name y py, .Name z pz] kt pt] (.Tuple [a, b, c] k2 pt2) pos.line X.env = pure false := by rfl) :
    PS X (.Assign [.Tuple [.Name x px, .Name y py, .Name z pz] kt pt] (.Tuple [a, b, c] k2 pt2) pos) (tS g Wx (dPar3 i j l m)) :=
  weakS (ps_par3 hc hN hi hj hl hij hil hjl hx hy hz ha hw hs) fun D σ H q => par3_reads q
end
end M

set_option Elab.async false
set_option linter.all false
set_option maxRecDepth 100000
set_option maxHeartbeats 4000000
namespace M
open PySem PySem.Spec PyProof.Rows L2

/-! # what the laws draw: cells, a box, what is taken -/
def gBody : DS := dSeq (dAsg (dOp fMod (dOne fInt (dCons (dVar 3) (dNil))) (dVar 1)) (bName 5)) (dSetIx (dOp fAddA (dOp fIx (dVar 2) (dVar 5)) (dOp fMulC (dVar 4) (dOp fAddA (dVar 3) (dC (.int 2))))) (dVar 2) (dVar 5))
def gTgt : W → WS → Option WS := bTup 2 (bCons (bName 3) (bCons (bName 4) (bNil)))
def gStart : Dn W := dOrT (dOne fList (dCons (dSl (dVar 0) (dNoPart) (dPart (dVar 1))) (dNil))) (dOne fLst (dCons (dC (.int 0)) (dNil)))
def gIter : Dn Nx := dOne fEnum (dCons (dSl (dVar 0) (dPart (dVar 1)) (dPart (dC (.int 63)))) (dNil))
def gCells : List W → MH → Res W := mFun 2 4 (dSeq (dAsg gStart (bName 2)) (dSeq (dFor gIter gTgt gBody) (dRet (dVar 2))))
theorem dOp_ok {f : W → W → MH → Res W} {a b : Dn W} {ws : WS} {h h1 h2 : MH} {x y : W} (e1 : a ws h = .ok x h1) (e2 : b ws h1 = .ok y h2) : dOp f a b ws h = f x y h2 := by
  show (a ws h).bnd _ = _
  rw [e1]
  show (b ws h1).bnd _ = _
  rw [e2]
  rfl
theorem dCons_ok {a : Dn W} {b : Dn (List W)} {ws : WS} {h h1 h2 : MH} {x : W} {y : List W} (e1 : a ws h = .ok x h1) (e2 : b ws h1 = .ok y h2) : dCons a b ws h = .ok (x :: y) h2 := by
  show (a ws h).bnd _ = _
  rw [e1]
  show (b ws h1).bnd _ = _
  rw [e2]
  rfl
theorem dOne_ok {α β : Type} {f : α → MH → Res β} {m : Dn α} {ws : WS} {h h1 : MH} {x : α} (e : m ws h = .ok x h1) : dOne f m ws h = f x h1 := by
  show (m ws h).bnd _ = _
  rw [e]
  rfl
theorem fMod_ok {i j : Int} {h : MH} (hj : 0 < j) : fMod (.int i) (.int j) h = .ok (.int (i % j)) h := by
  have : cPos i j = true := decide_eq_true hj
  show (if cPos i j = true then (Res.ok (.int (i % j)) h : Res W) else .stuck) = _
  rw [if_pos this]
theorem kIf_ok {c : Int → Int → Bool} {k : Int → Int → Int} {i j : Int} {h : MH} (e : c i j = true) : f2I (kIf c k) (.int i) (.int j) h = .ok (.int (k i j)) h := by
  show kIf c k i j h = _
  unfold kIf
  rw [if_pos e]
theorem fMulC_int {i j : Int} {h : MH} : fMulC (.int i) (.int j) h = fMulB (.int i) (.int j) h := rfl
theorem fMulC_ok {i j : Int} {h : MH} (e : cMulB i j = true) : fMulC (.int i) (.int j) h = .ok (.int (i * j)) h := by
  rw [fMulC_int]
  exact kIf_ok e
theorem cMulB_r {i j : Int} (e : -(2 ^ 64) < j ∧ j < 2 ^ 64) : cMulB i j = true := by
  have : small64 j = true := decide_eq_true e
  unfold cMulB
  rw [this]
theorem cMulB_l {i j : Int} (e : -(2 ^ 64) < i ∧ i < 2 ^ 64) : cMulB i j = true := by
  have : small64 i = true := decide_eq_true e
  unfold cMulB
  rw [this]
  cases small64 j <;> rfl
theorem fAddA_ok {i j : Int} {h : MH} : fAddA (.int i) (.int j) h = .ok (.int (i + j)) h := rfl
theorem fDivB_ok {i j : Int} {h : MH} (h0 : 0 < j) (hl : j < 2 ^ 64) : fDivB (.int i) (.int j) h = .ok (.int (i / j)) h := by
  have : cDivB i j = true := by
    unfold cDivB
    rw [decide_eq_false (by omega : ¬ j = 0)]
    have h1 : j.natAbs.log2 < 64 := by
      have : j.natAbs < 2 ^ 64 := by omega
      exact (Nat.log2_lt (by omega)).mpr this
    have h2 : j.natAbs.log2 ≤ 8999 := by omega
    exact Nat.ble_eq_true_of_le h2
  have e := kIf_ok (k := dvB) (h := h) this
  have e2 : dvB i j = i / j := by
    unfold dvB
    rw [decide_eq_true h0]
  rw [e2] at e
  exact e
theorem ixN_ok {n : Nat} {j : Int} (h0 : 0 ≤ j) (h1 : j < n) : ixN n j = some j.toNat := by
  unfold ixN
  rw [if_pos h0, if_pos h1]
theorem body_step {x0 a' : Option W} {most c i : Nat} {b : Int} {cs : List Int} {h : MH} (hm : 1 ≤ most) (hi : i < 64) (hg : h.get c = some (.lst (cs.map W.int))) (hl : cs.length = most) :
    ∃ v, gBody [x0, some (.int most), some (.ref c), some (.int i), some (.int b), a'] h
      = .nx [x0, some (.int most), some (.ref c), some (.int i), some (.int b), some (.int ((i : Int) % most))] (h.set c (.lst ((cs.set ((i : Int) % most).toNat v).map W.int))) := by
  have j0 : 0 ≤ (i : Int) % most := Int.emod_nonneg _ (by omega)
  have j1 : (i : Int) % most < most := Int.emod_lt_of_pos _ (by omega)
  have e1 : dOp fMod (dOne fInt (dCons (dVar 3) (dNil))) (dVar 1) [x0, some (.int most), some (.ref c), some (.int i), some (.int b), a'] h = .ok (.int ((i : Int) % most)) h :=
    (dOp_ok (h1 := h) (h2 := h) (x := .int i) (y := .int most) rfl rfl).trans (fMod_ok (by omega))
  have jl : ((i : Int) % most).toNat < cs.length := by omega
  have e3 : dOp fIx (dVar 2) (dVar 5) [x0, some (.int most), some (.ref c), some (.int i), some (.int b), some (.int ((i : Int) % most))] h = .ok (.int cs[((i : Int) % most).toNat]) h := by
    show (match items (.ref c) h with
      | some xs => (match atI xs ((i : Int) % most) with | some w => (Res.ok w h : Res W) | none => .stuck)
      | none => .stuck) = _
    have z : items (.ref c) h = some (cs.map W.int) := by simp only [items, hg]
    rw [z]
    have z2 : atI (cs.map W.int) ((i : Int) % most) = some (.int cs[((i : Int) % most).toNat]) := by
      unfold atI
      rw [List.length_map, ixN_ok j0 (by omega)]
      simp [List.getElem?_eq_getElem jl]
    dsimp only
    rw [z2]
  have e4 : dOp fMulC (dVar 4) (dOp fAddA (dVar 3) (dC (.int 2))) [x0, some (.int most), some (.ref c), some (.int i), some (.int b), some (.int ((i : Int) % most))] h = .ok (.int (b * ((i : Int) + 2))) h :=
    (dOp_ok (h1 := h) (h2 := h) (x := .int b) (y := .int ((i : Int) + 2)) rfl ((dOp_ok (h1 := h) (h2 := h) (x := .int i) (y := .int 2) rfl rfl).trans fAddA_ok)).trans (fMulC_ok (cMulB_r (by omega)))
  refine ⟨cs[((i : Int) % most).toNat] + b * ((i : Int) + 2), ?_⟩
  unfold gBody dSeq dAsg dOneS
  rw [e1]
  show dSetIx (dOp fAddA (dOp fIx (dVar 2) (dVar 5)) (dOp fMulC (dVar 4) (dOp fAddA (dVar 3) (dC (.int 2))))) (dVar 2) (dVar 5) [x0, some (.int most), some (.ref c), some (.int i), some (.int b), some (.int ((i : Int) % most))] h = _
  have e5 : dOp fAddA (dOp fIx (dVar 2) (dVar 5)) (dOp fMulC (dVar 4) (dOp fAddA (dVar 3) (dC (.int 2)))) [x0, some (.int most), some (.ref c), some (.int i), some (.int b), some (.int ((i : Int) % most))] h = .ok (.int (cs[((i : Int) % most).toNat] + b * ((i : Int) + 2))) h :=
    (dOp_ok e3 e4).trans fAddA_ok
  unfold dSetIx
  rw [e5]
  show (match h.get c with
    | some (.lst xs) => (match ixN xs.length ((i : Int) % most) with
      | some j => SR.nx _ (h.set c (.lst (xs.set j (.int (cs[((i : Int) % most).toNat] + b * ((i : Int) + 2))))))
      | none => .stuck)
    | _ => .stuck) = _
  rw [hg]
  dsimp only
  rw [List.length_map, ixN_ok j0 (by omega)]
  dsimp only
  rw [List.map_set]
theorem cells_loop {x0 : Option W} {most c s : Nat} {bs : List Int} (hm : 1 ≤ most) (hb : bs.length ≤ 63) (hne : s ≠ c) : ∀ (j i f : Nat) (p q r : Option W) (cs : List Int) (h : MH), i + j = bs.length → j < f → h.get s = some (.lst (bs.map W.int)) → h.get c = some (.lst (cs.map W.int)) → (bs ≠ [] → cs.length = most) → cs ≠ [] →
    ∃ (ws' : WS) (h' : MH) (cs' : List Int), dLoop (nEnum (nCell s)) gTgt gBody f i [x0, some (.int most), some (.ref c), p, q, r] h = .nx (x0 :: some (.int most) :: some (.ref c) :: ws') h' ∧ h'.get c = some (.lst (cs'.map W.int)) ∧ cs'.length = cs.length
  | 0, i, f + 1, p, q, r, cs, h, hij, hf, hs, hc, hl, hn => by
    refine ⟨[p, q, r], h, cs, ?_, hc, rfl⟩
    conv => lhs; unfold dLoop
    have : nEnum (nCell s) i h = some none := by
      unfold nEnum nCell
      rw [hs]
      dsimp only
      rw [List.getElem?_eq_none (by simp; omega)]
    rw [this]
  | j + 1, i, f + 1, p, q, r, cs, h, hij, hf, hs, hc, hl, hn => by
    have hi : i < bs.length := by omega
    have bne : bs ≠ [] := fun z => by rw [z] at hi; simp at hi
    have n1 : nEnum (nCell s) i h = some (some (.tup [.int (i : Nat), .int bs[i]])) := by
      unfold nEnum nCell
      rw [hs]
      dsimp only
      rw [List.getElem?_eq_getElem (by simpa using hi)]
      simp
    obtain ⟨v, bstep⟩ := body_step (x0 := x0) (a' := r) (i := i) (b := bs[i]) hm (by omega) hc (hl bne)
    obtain ⟨ws', h', cs', e1, e2, e3⟩ := cells_loop (x0 := x0) hm hb hne j (i + 1) f (some (.int i)) (some (.int bs[i])) (some (.int ((i : Int) % most))) (cs.set ((i : Int) % most).toNat v) (h.set c (.lst ((cs.set ((i : Int) % most).toNat v).map W.int))) (by omega) (by omega)
      (by rw [MH.get_set_ne hne]; exact hs) MH.get_set (fun z => by rw [List.length_set]; exact hl z) (fun z => hn (by simpa using z))
    refine ⟨ws', h', cs', ?_, e2, by rw [e3, List.length_set]⟩
    conv => lhs; unfold dLoop
    rw [n1]
    dsimp only
    have t1 : gTgt (.tup [.int (i : Nat), .int bs[i]]) [x0, some (.int most), some (.ref c), p, q, r] = some [x0, some (.int most), some (.ref c), some (.int i), some (.int bs[i]), r] := rfl
    rw [t1]
    dsimp only
    rw [bstep]
    exact e1
theorem cutW_map (ns : List Int) (lo hi : Option Int) : ∃ k l, cutW (ns.map W.int) lo hi = ((ns.drop k).take l).map W.int ∧ k = HT.sIx ns.length 0 lo ∧ l = HT.sIx ns.length ns.length hi - HT.sIx ns.length 0 lo := by
  refine ⟨_, _, ?_, rfl, rfl⟩
  unfold cutW
  simp [List.map_take, List.map_drop]
theorem get_lt {h : MH} {i : Nat} {o : O} (hs : ∀ i o, h.get i = some o → i < h.n) (e : h.get i = some o) : i < h.n := hs i o e
theorem cells_ok {ns : List Int} {most : Nat} (h : MH) (hm : 1 ≤ most) (hm2 : most ≤ 63) (hn : ns.length ≤ 63) :
    ∃ (c : Nat) (h' : MH) (cs : List Int), gCells [.fro (ns.map W.int), .int most] h = .ok (.ref c) h' ∧ h'.get c = some (.lst (cs.map W.int)) ∧ cs ≠ [] ∧ cs.length ≤ most := by
  -- the first cells
  obtain ⟨k1, l1, c1, hk1, hl1⟩ := cutW_map ns none (some most)
  obtain ⟨k2, l2, c2, hk2, hl2⟩ := cutW_map ns (some most) (some 63)
  have s1 : HT.sIx ns.length ns.length (some (most : Int)) = min most ns.length := HT.sIx_nat _ _ _
  have s2 : HT.sIx ns.length 0 (some (most : Int)) = min most ns.length := HT.sIx_nat _ _ _
  have s3 : HT.sIx ns.length ns.length (some 63) = min 63 ns.length := HT.sIx_nat _ _ 63
  have s0 : HT.sIx ns.length 0 none = 0 := rfl
  rw [s0] at hk1 hl1
  rw [s1] at hl1
  rw [s2] at hk2 hl2
  rw [s3] at hl2
  -- h1: behind the slice, h2: behind list()
  have sl1 : ∀ h, dSl (dVar 0) dNoPart (dPart (dVar 1)) [some (.fro (ns.map W.int)), some (.int most), none, none, none, none] h = .ok (.ref h.n) (h.push (.lst (((ns.drop k1).take l1).map W.int))) := fun h => by
    show (match litems (.fro (ns.map W.int)) h with | some xs => (Res.ok (.ref h.n) (h.push (.lst (cutW xs none (some (most : Int))))) : Res W) | none => .stuck) = _
    simp only [litems, c1]
  have li1 : ∀ h : MH, fList [.ref h.n] (h.push (.lst (((ns.drop k1).take l1).map W.int))) = .ok (.ref (h.n + 1)) ((h.push (.lst (((ns.drop k1).take l1).map W.int))).push (.lst (((ns.drop k1).take l1).map W.int))) := fun h => by
    unfold fList
    simp only [items, MH.get_push]
    rfl
  have start : ∃ (c : Nat) (h1 : MH) (cs : List Int), gStart [some (.fro (ns.map W.int)), some (.int most), none, none, none, none] h = .ok (.ref c) h1 ∧ h1.get c = some (.lst (cs.map W.int)) ∧ cs ≠ [] ∧ cs.length ≤ most ∧ (most < ns.length → cs.length = most) ∧ c < h1.n := by
    unfold gStart dOrT
    have e : dOne fList (dCons (dSl (dVar 0) dNoPart (dPart (dVar 1))) dNil) [some (.fro (ns.map W.int)), some (.int most), none, none, none, none] h = .ok (.ref (h.n + 1)) ((h.push (.lst (((ns.drop k1).take l1).map W.int))).push (.lst (((ns.drop k1).take l1).map W.int))) := by
      refine (dOne_ok (dCons_ok (sl1 h) (rfl : dNil _ _ = .ok [] _))).trans ?_
      exact li1 h
    rw [e]
    have g1 : ((h.push (.lst (((ns.drop k1).take l1).map W.int))).push (.lst (((ns.drop k1).take l1).map W.int))).get (h.n + 1) = some (.lst (((ns.drop k1).take l1).map W.int)) := MH.get_push (h := h.push (.lst (((ns.drop k1).take l1).map W.int)))
    have len : ((ns.drop k1).take l1).length = min most ns.length := by
      rw [List.length_take, List.length_drop, hk1, hl1]
      omega
    show ∃ (c : Nat) (h1 : MH) (cs : List Int), (match truW (.ref (h.n + 1)) ((h.push (.lst (((ns.drop k1).take l1).map W.int))).push (.lst (((ns.drop k1).take l1).map W.int))) with
      | some true => (Res.ok (.ref (h.n + 1)) ((h.push (.lst (((ns.drop k1).take l1).map W.int))).push (.lst (((ns.drop k1).take l1).map W.int))) : Res W)
      | some false => dOne fLst (dCons (dC (.int 0)) dNil) [some (.fro (ns.map W.int)), some (.int most), none, none, none, none] ((h.push (.lst (((ns.drop k1).take l1).map W.int))).push (.lst (((ns.drop k1).take l1).map W.int)))
      | none => .stuck) = .ok (.ref c) h1 ∧ _
    have tr : truW (.ref (h.n + 1)) ((h.push (.lst (((ns.drop k1).take l1).map W.int))).push (.lst (((ns.drop k1).take l1).map W.int))) = some (!(((ns.drop k1).take l1).map W.int).isEmpty) := by
      simp only [truW, items, g1, Option.map_some]
    rw [tr]
    cases q : (ns.drop k1).take l1 with
    | nil =>
      rw [q] at len
      refine ⟨h.n + 1 + 1, _, [0], rfl, MH.get_push (h := (h.push (.lst (([] : List Int).map W.int))).push (.lst (([] : List Int).map W.int))), by simp, by simpa using hm, fun z => ?_, Nat.lt_succ_self _⟩
      simp at len
      omega
    | cons a l =>
      rw [q] at len
      refine ⟨h.n + 1, _, a :: l, rfl, MH.get_push (h := h.push (.lst ((a :: l).map W.int))), by simp, by rw [len]; exact Nat.min_le_left _ _, fun z => by rw [len]; omega, Nat.lt_succ_self _⟩
  obtain ⟨c, h1, cs, e1, e2, e3, e4, e5, e6⟩ := start
  -- the walk
  have it : gIter [some (.fro (ns.map W.int)), some (.int most), some (.ref c), none, none, none] h1 = .ok (nEnum (nCell h1.n)) (h1.push (.lst (((ns.drop k2).take l2).map W.int))) := by
    have sl2 : dSl (dVar 0) (dPart (dVar 1)) (dPart (dC (.int 63))) [some (.fro (ns.map W.int)), some (.int most), some (.ref c), none, none, none] h1 = .ok (.ref h1.n) (h1.push (.lst (((ns.drop k2).take l2).map W.int))) := by
      show (match litems (.fro (ns.map W.int)) h1 with | some xs => (Res.ok (.ref h1.n) (h1.push (.lst (cutW xs (some (most : Int)) (some 63)))) : Res W) | none => .stuck) = _
      simp only [litems, c2]
    refine (dOne_ok (dCons_ok sl2 (rfl : dNil _ _ = .ok [] _))).trans ?_
    show fEnum [.ref h1.n] (h1.push (.lst (((ns.drop k2).take l2).map W.int))) = _
    unfold fEnum isL
    simp only [nList, litems, MH.get_push]
  have len2 : ((ns.drop k2).take l2).length ≤ 63 := by
    rw [List.length_take, List.length_drop]
    omega
  have hcn : h1.n ≠ c := by omega
  obtain ⟨ws', h', cs', r1, r2, r3⟩ := cells_loop (x0 := some (.fro (ns.map W.int))) (most := most) (c := c) (s := h1.n) (bs := (ns.drop k2).take l2) hm len2 hcn ((ns.drop k2).take l2).length 0 LOOPS none none none cs (h1.push (.lst (((ns.drop k2).take l2).map W.int))) (Nat.zero_add _)
    (Nat.lt_of_le_of_lt len2 (by decide)) MH.get_push (by rw [MH.get_push_ne (fun q => hcn q.symm)]; exact e2) (fun z => e5 (by
      have : 0 < ((ns.drop k2).take l2).length := List.length_pos_iff.mpr z
      rw [List.length_take, List.length_drop] at this
      omega)) e3
  refine ⟨c, h', cs', ?_, r2, fun z => e3 (by rw [z] at r3; exact List.eq_nil_of_length_eq_zero r3.symm), by rw [r3]; exact e4⟩
  unfold gCells mFun
  show (match dSeq (dAsg gStart (bName 2)) (dSeq (dFor gIter gTgt gBody) (dRet (dVar 2))) [some (.fro (ns.map W.int)), some (.int most), none, none, none, none] h with
    | .rt w h' => (Res.ok w h' : Res W)
    | .nx _ h' => .ok .non h'
    | .exc _ c fs h' => .exc c fs h'
    | _ => .stuck) = _
  have a1 : dAsg gStart (bName 2) [some (.fro (ns.map W.int)), some (.int most), none, none, none, none] h = .nx [some (.fro (ns.map W.int)), some (.int most), some (.ref c), none, none, none] h1 := by
    unfold dAsg dOneS
    rw [e1]
    rfl
  have a2 : dFor gIter gTgt gBody [some (.fro (ns.map W.int)), some (.int most), some (.ref c), none, none, none] h1 = .nx (some (.fro (ns.map W.int)) :: some (.int most) :: some (.ref c) :: ws') h' := by
    unfold dFor dOneS
    rw [it]
    exact r1
  have a3 : dSeq (dAsg gStart (bName 2)) (dSeq (dFor gIter gTgt gBody) (dRet (dVar 2))) [some (.fro (ns.map W.int)), some (.int most), none, none, none, none] h = .rt (.ref c) h' := by
    unfold dSeq
    rw [a1]
    dsimp only
    rw [a2]
    rfl
  rw [a3]
end M

set_option Elab.async false
set_option linter.all false
set_option maxRecDepth 100000
set_option maxHeartbeats 4000000
namespace M
open PySem PySem.Spec PyProof.Rows L2
theorem dAsg_ok {m : Dn W} {f : W → WS → Option WS} {ws ws' : WS} {h h1 : MH} {w : W} (e : m ws h = .ok w h1) (e2 : f w ws = some ws') : dAsg m f ws h = .nx ws' h1 := by
  unfold dAsg dOneS
  rw [e]
  show (match f w ws with | some ws' => SR.nx ws' h1 | none => .stuck) = _
  rw [e2]
theorem dSeq_nx {a b : DS} {ws ws' : WS} {h h' : MH} (e : a ws h = .nx ws' h') : dSeq a b ws h = b ws' h' := by
  unfold dSeq
  rw [e]
theorem dSeq_rt {a b : DS} {ws : WS} {h h' : MH} {w : W} (e : a ws h = .rt w h') : dSeq a b ws h = .rt w h' := by
  unfold dSeq
  rw [e]
theorem dRet_ok {m : Dn W} {ws : WS} {h h' : MH} {w : W} (e : m ws h = .ok w h') : dRet m ws h = .rt w h' := by
  unfold dRet dOneS
  rw [e]
  rfl
theorem dIfS_t {c : Dn Bool} {a b : DS} {ws : WS} {h h' : MH} (e : c ws h = .ok true h') : dIfS c a b ws h = a ws h' := by
  unfold dIfS dOneS
  rw [e]
  rfl
theorem dIfS_f {c : Dn Bool} {a b : DS} {ws : WS} {h h' : MH} (e : c ws h = .ok false h') : dIfS c a b ws h = b ws h' := by
  unfold dIfS dOneS
  rw [e]
  rfl
theorem dIf_t {α : Type} {c : Dn Bool} {a b : Dn α} {ws : WS} {h h' : MH} (e : c ws h = .ok true h') : dIf c a b ws h = a ws h' := by
  unfold dIf
  rw [e]
  rfl
theorem dIf_f {α : Type} {c : Dn Bool} {a b : Dn α} {ws : WS} {h h' : MH} (e : c ws h = .ok false h') : dIf c a b ws h = b ws h' := by
  unfold dIf
  rw [e]
  rfl
theorem dTest_ok {m : Dn W} {ws : WS} {h h' : MH} {k : Bool} (e : m ws h = .ok (.bl k) h') : dTest m ws h = .ok k h' := by
  unfold dTest
  rw [e]
  rfl
theorem dSetIx_ok {m mo mi : Dn W} {ws : WS} {h h1 h2 h3 : MH} {v : W} {k j : Nat} {i : Int} {xs : List W} (e1 : m ws h = .ok v h1) (e2 : mo ws h1 = .ok (.ref k) h2) (e3 : mi ws h2 = .ok (.int i) h3) (e4 : h3.get k = some (.lst xs)) (e5 : ixN xs.length i = some j) :
    dSetIx m mo mi ws h = .nx ws (h3.set k (.lst (xs.set j v))) := by
  unfold dSetIx
  rw [e1]
  show (mo ws h1).bndS ws _ = _
  rw [e2]
  show (mi ws h2).bndS ws _ = _
  rw [e3]
  show (match h3.get k with
    | some (.lst xs) => (match ixN xs.length i with
      | some j => SR.nx ws (h3.set k (.lst (xs.set j v)))
      | none => .stuck)
    | _ => .stuck) = _
  rw [e4]
  dsimp only
  rw [e5]
theorem fIx_ref {t : Nat} {h : MH} {xs : List W} {i : Int} {w : W} (hg : h.get t = some (.lst xs)) (e : atI xs i = some w) : fIx (.ref t) (.int i) h = .ok w h := by
  show (match items (.ref t) h with
      | some xs => (match atI xs i with | some w => (Res.ok w h : Res W) | none => .stuck)
      | none => .stuck) = _
  have z : items (.ref t) h = some xs := by simp only [items, hg]
  rw [z]
  dsimp only
  rw [e]
theorem mFun_rt {np nl : Nat} {body : DS} {args : List W} {h h' : MH} {w : W} (hl : Nat.beq args.length np = true) (e : body (args.map some ++ List.replicate nl none) h = .rt w h') : mFun np nl body args h = .ok w h' := by
  unfold mFun
  rw [hl]
  dsimp only
  rw [e]
theorem fPow_1018 {h : MH} : fPow (.int 10) (.int 18) h = .ok (.int 1000000000000000000) h := rfl
/-! ### the box -/
def gBox (C : Int) : List W → MH → Res W := mFun 2 1 (dSeq (dAsg (dIf (dTest (dOp fLtA (dVar 1) (dOne fLen (dCons (dVar 0) (dNil))))) (dOp fIx (dVar 0) (dVar 1)) (dC (.int 0))) (bName 2)) (dRet (dOne fLst (dCons (dOp fMulC (dOne fAbs (dCons (dVar 2) (dNil))) (dOne fInt (dCons (dOp fGe (dOne fAbs (dCons (dVar 2) (dNil))) (dOp fPow (dC (.int 10)) (dC (.int 18)))) (dNil)))) (dCons (dOp fAddA (dOp fAddA (dOp fMod (dOne fInt (dCons (dVar 2) (dNil))) (dC (.int 2305843009213693951))) (dOp fMulC (dC (.int 39373)) (dVar 1))) (dC (.int C))) (dCons (dC (.int 0)) (dNil)))))))
def dNil_ok {ws : WS} {h : MH} : dNil ws h = .ok [] h := rfl
theorem box_ok {C : Int} (hC : 0 ≤ C ∧ C < 2 ^ 40) {c k : Nat} {cs : List Int} {h : MH} (hc : h.get c = some (.lst (cs.map W.int))) (hk : k ≤ 1000000) :
    ∃ a b : Int, 0 ≤ a ∧ 0 ≤ b ∧ b < 2 ^ 64 ∧ gBox C [.ref c, .int k] h = .ok (.ref h.n) (h.push (.lst [.int a, .int b, .int 0])) := by
  have len : dOne fLen (dCons (dVar 0) dNil) [some (.ref c), some (.int k), none] h = .ok (.int cs.length) h := by
    refine (dOne_ok (dCons_ok (x := .ref c) rfl dNil_ok)).trans ?_
    show (match items (.ref c) h with | some ys => (Res.ok (.int ys.length) h : Res W) | none => .stuck) = _
    simp only [items, hc, List.length_map]
  have bit : ∃ b : Int, dIf (dTest (dOp fLtA (dVar 1) (dOne fLen (dCons (dVar 0) (dNil))))) (dOp fIx (dVar 0) (dVar 1)) (dC (.int 0)) [some (.ref c), some (.int k), none] h = .ok (.int b) h := by
    have t : dTest (dOp fLtA (dVar 1) (dOne fLen (dCons (dVar 0) (dNil)))) [some (.ref c), some (.int k), none] h = .ok (decide ((k : Int) < (cs.length : Int))) h :=
      dTest_ok ((dOp_ok (x := .int k) rfl len).trans rfl)
    by_cases q : (k : Int) < (cs.length : Int)
    · rw [decide_eq_true q] at t
      have kl : k < cs.length := by omega
      refine ⟨cs[k], (dIf_t t).trans ((dOp_ok (x := .ref c) (y := .int k) rfl rfl).trans (fIx_ref hc ?_))⟩
      unfold atI
      rw [List.length_map, ixN_ok (by omega) (by omega)]
      simp [List.getElem?_eq_getElem kl]
    · rw [decide_eq_false q] at t
      exact ⟨0, (dIf_f t).trans rfl⟩
  obtain ⟨b, eb⟩ := bit
  let ab : Int := if b < 0 then -b else b
  have ab0 : 0 ≤ ab := by show 0 ≤ (if b < 0 then -b else b); split <;> omega
  have eab : dOne fAbs (dCons (dVar 2) dNil) [some (.ref c), some (.int k), some (.int b)] h = .ok (.int ab) h := (dOne_ok (dCons_ok (x := .int b) rfl dNil_ok)).trans rfl
  let z : Int := if decide ((1000000000000000000 : Int) ≤ ab) = true then 1 else 0
  have z01 : z = 0 ∨ z = 1 := by show (if _ then (1 : Int) else 0) = 0 ∨ (if _ then (1 : Int) else 0) = 1; split <;> simp
  have ez : dOne fInt (dCons (dOp fGe (dOne fAbs (dCons (dVar 2) (dNil))) (dOp fPow (dC (.int 10)) (dC (.int 18)))) (dNil)) [some (.ref c), some (.int k), some (.int b)] h = .ok (.int z) h := by
    have e1 : dOp fGe (dOne fAbs (dCons (dVar 2) (dNil))) (dOp fPow (dC (.int 10)) (dC (.int 18))) [some (.ref c), some (.int k), some (.int b)] h = .ok (.bl (decide ((1000000000000000000 : Int) ≤ ab))) h :=
      (dOp_ok eab ((dOp_ok (x := .int 10) (y := .int 18) rfl rfl).trans fPow_1018)).trans rfl
    exact (dOne_ok (dCons_ok e1 dNil_ok)).trans rfl
  have e1 : dOp fMulC (dOne fAbs (dCons (dVar 2) (dNil))) (dOne fInt (dCons (dOp fGe (dOne fAbs (dCons (dVar 2) (dNil))) (dOp fPow (dC (.int 10)) (dC (.int 18)))) (dNil))) [some (.ref c), some (.int k), some (.int b)] h = .ok (.int (ab * z)) h :=
    (dOp_ok eab ez).trans (fMulC_ok (cMulB_r (by rcases z01 with q | q <;> rw [q] <;> decide)))
  have e2 : dOp fAddA (dOp fAddA (dOp fMod (dOne fInt (dCons (dVar 2) (dNil))) (dC (.int 2305843009213693951))) (dOp fMulC (dC (.int 39373)) (dVar 1))) (dC (.int C)) [some (.ref c), some (.int k), some (.int b)] h = .ok (.int (b % 2305843009213693951 + 39373 * k + C)) h := by
    have m1 : dOp fMod (dOne fInt (dCons (dVar 2) (dNil))) (dC (.int 2305843009213693951)) [some (.ref c), some (.int k), some (.int b)] h = .ok (.int (b % 2305843009213693951)) h :=
      (dOp_ok (x := .int b) (y := .int 2305843009213693951) ((dOne_ok (dCons_ok (x := .int b) rfl dNil_ok)).trans rfl) rfl).trans (fMod_ok (by omega))
    have m2 : dOp fMulC (dC (.int 39373)) (dVar 1) [some (.ref c), some (.int k), some (.int b)] h = .ok (.int (39373 * k)) h :=
      (dOp_ok (x := .int 39373) (y := .int k) rfl rfl).trans (fMulC_ok (cMulB_l (by decide)))
    exact (dOp_ok ((dOp_ok m1 m2).trans fAddA_ok) (y := .int C) rfl).trans fAddA_ok
  refine ⟨ab * z, b % 2305843009213693951 + 39373 * k + C, ?_, ?_, ?_, ?_⟩
  · rcases z01 with q | q <;> rw [q] <;> omega
  · have := Int.emod_nonneg b (b := 2305843009213693951) (by decide)
    omega
  · have := Int.emod_lt_of_pos b (b := 2305843009213693951) (by decide)
    omega
  · refine mFun_rt rfl ?_
    refine (dSeq_nx (dAsg_ok (ws' := [some (.ref c), some (.int k), some (.int b)]) eb rfl)).trans ?_
    exact dRet_ok ((dOne_ok (dCons_ok e1 (dCons_ok e2 (dCons_ok (x := .int 0) rfl dNil_ok)))).trans rfl)
/-! ### what is taken -/
def gTake : List W → MH → Res W := mFun 2 4 (dSeq (dIfS (dTest (dOp fGtA (dOp fIx (dVar 0) (dC (.int 0))) (dC (.int 0)))) (dSeq (dAsg (dOp fMod (dOne fInt (dCons (dOp fIx (dVar 0) (dC (.int 0))) (dNil))) (dVar 1)) (bName 2)) (dSeq (dSetIx (dOp fDivB (dOp fIx (dVar 0) (dC (.int 0))) (dVar 1)) (dVar 0) (dC (.int 0))) (dRet (dVar 2)))) (dNext)) (dSeq (dSetIx (dOp fAddA (dOp fIx (dVar 0) (dC (.int 2))) (dC (.int 1))) (dVar 0) (dC (.int 2))) (dSeq (dAsg (dOp fMod (dOne fInt (dCons (dOp fMulC (dOp fAddA (dOp fIx (dVar 0) (dC (.int 1))) (dOp fMulC (dC (.int 48271)) (dOp fIx (dVar 0) (dC (.int 2))))) (dOp fAddA (dC (.int 39373)) (dOp fIx (dVar 0) (dC (.int 2))))) (dNil))) (dC (.int 2147483647))) (bName 3)) (dSeq (dAsg (dOp fAddA (dOp fMod (dOne fInt (dCons (dVar 3) (dNil))) (dC (.int 40009))) (dC (.int 7))) (bName 4)) (dSeq (dAsg (dOp fMod (dOne fInt (dCons (dOp fMulC (dOp fAddA (dOp fAddA (dVar 3) (dOp fIx (dVar 0) (dC (.int 2)))) (dOp fDivB (dOp fIx (dVar 0) (dC (.int 1))) (dC (.int 1000003)))) (dVar 4)) (dNil))) (dC (.int 2147483629))) (bName 5)) (dRet (dOp fMod (dOne fInt (dCons (dOp fDivB (dOp fMod (dOne fInt (dCons (dOp fAddA (dOp fMulC (dVar 5) (dC (.int 48271))) (dVar 3)) (dNil))) (dC (.int 2147483587))) (dC (.int 64))) (dNil))) (dVar 1))))))))
theorem int1_ok {m : Dn W} {ws : WS} {h h1 : MH} {i : Int} (e : m ws h = .ok (.int i) h1) : dOne fInt (dCons m dNil) ws h = .ok (.int i) h1 := (dOne_ok (dCons_ok e dNil_ok)).trans rfl
theorem take_ok {t : Nat} {a b c m : Int} {h : MH} (ht : h.get t = some (.lst [.int a, .int b, .int c])) (hm : 0 < m) (hm2 : m < 2 ^ 64) (hc0 : 0 ≤ c) (hc : c ≤ 1000000000) :
    ∃ (d : Int) (h' : MH) (a' c' : Int), gTake [.ref t, .int m] h = .ok (.int d) h' ∧ 0 ≤ d ∧ d < m ∧ h'.get t = some (.lst [.int a', .int b, .int c']) ∧ 0 ≤ c' ∧ c' ≤ c + 1 ∧ h'.n = h.n ∧ ∀ i, i ≠ t → h'.get i = h.get i := by
  have i0 : ∀ ws, ws[0]? = some (some (.ref t)) → dOp fIx (dVar 0) (dC (.int 0)) ws h = .ok (.int a) h := fun ws q => (dOp_ok (h1 := h) (x := .ref t) (y := .int 0) (by unfold dVar; rw [q]) rfl).trans (fIx_ref ht rfl)
  have cnd : dTest (dOp fGtA (dOp fIx (dVar 0) (dC (.int 0))) (dC (.int 0))) [some (.ref t), some (.int m), none, none, none, none] h = .ok (decide (0 < a)) h :=
    dTest_ok ((dOp_ok (i0 _ rfl) (y := .int 0) rfl).trans rfl)
  by_cases q : 0 < a
  · rw [decide_eq_true q] at cnd
    refine ⟨a % m, h.set t (.lst [.int (a / m), .int b, .int c]), a / m, c, ?_, Int.emod_nonneg _ (by omega), Int.emod_lt_of_pos _ hm, MH.get_set, hc0, by omega, rfl, fun i hi => MH.get_set_ne hi⟩
    refine mFun_rt rfl (dSeq_rt ((dIfS_t cnd).trans ?_))
    refine (dSeq_nx (dAsg_ok (ws' := [some (.ref t), some (.int m), some (.int (a % m)), none, none, none]) ((dOp_ok (int1_ok (i0 _ rfl)) (y := .int m) rfl).trans (fMod_ok hm)) rfl)).trans ?_
    refine (dSeq_nx (dSetIx_ok ((dOp_ok (i0 _ rfl) (y := .int m) rfl).trans (fDivB_ok hm hm2)) (k := t) rfl (i := 0) rfl ht (j := 0) rfl)).trans ?_
    exact dRet_ok rfl
  · rw [decide_eq_false q] at cnd
    let h1 : MH := h.set t (.lst [.int a, .int b, .int (c + 1)])
    have g1 : h1.get t = some (.lst [.int a, .int b, .int (c + 1)]) := MH.get_set
    have j1 : ∀ ws, ws[0]? = some (some (.ref t)) → dOp fIx (dVar 0) (dC (.int 1)) ws h1 = .ok (.int b) h1 := fun ws q => (dOp_ok (h1 := h1) (x := .ref t) (y := .int 1) (by unfold dVar; rw [q]) rfl).trans (fIx_ref g1 rfl)
    have j2 : ∀ ws, ws[0]? = some (some (.ref t)) → dOp fIx (dVar 0) (dC (.int 2)) ws h1 = .ok (.int (c + 1)) h1 := fun ws q => (dOp_ok (h1 := h1) (x := .ref t) (y := .int 2) (by unfold dVar; rw [q]) rfl).trans (fIx_ref g1 rfl)
    have i2 : ∀ ws, ws[0]? = some (some (.ref t)) → dOp fIx (dVar 0) (dC (.int 2)) ws h = .ok (.int c) h := fun ws q => (dOp_ok (h1 := h) (x := .ref t) (y := .int 2) (by unfold dVar; rw [q]) rfl).trans (fIx_ref ht rfl)
    let o : Int := ((b + 48271 * (c + 1)) * (39373 + (c + 1))) % 2147483647
    let w : Int := o % 40009 + 7
    let u : Int := ((o + (c + 1) + b / 1000003) * w) % 2147483629
    let d : Int := ((u * 48271 + o) % 2147483587 / 64) % m
    have w0 : 0 ≤ o % 40009 := Int.emod_nonneg _ (by decide)
    have w1 : o % 40009 < 40009 := Int.emod_lt_of_pos _ (by decide)
    refine ⟨d, h1, a, c + 1, ?_, Int.emod_nonneg _ (by omega), Int.emod_lt_of_pos _ hm, g1, by omega, Int.le_refl _, rfl, fun i hi => MH.get_set_ne hi⟩
    refine mFun_rt rfl ?_
    refine (dSeq_nx (ws' := [some (.ref t), some (.int m), none, none, none, none]) (h' := h) ((dIfS_f cnd).trans rfl)).trans ?_
    refine (dSeq_nx (h' := h1) (dSetIx_ok ((dOp_ok (i2 _ rfl) (y := .int 1) rfl).trans fAddA_ok) (k := t) rfl (i := 2) rfl ht (j := 2) rfl)).trans ?_
    refine (dSeq_nx (dAsg_ok (w := .int o) (h1 := h1) (ws' := [some (.ref t), some (.int m), none, some (.int o), none, none]) ?_ rfl)).trans ?_
    · refine (dOp_ok (int1_ok ((dOp_ok ((dOp_ok (j1 _ rfl) ((dOp_ok (x := .int 48271) rfl (j2 _ rfl)).trans (fMulC_ok (cMulB_l (by decide))))).trans fAddA_ok) ((dOp_ok (x := .int 39373) rfl (j2 _ rfl)).trans fAddA_ok)).trans (fMulC_ok (cMulB_r (by omega))))) (y := .int 2147483647) rfl).trans (fMod_ok (by decide))
    refine (dSeq_nx (dAsg_ok (w := .int w) (h1 := h1) (ws' := [some (.ref t), some (.int m), none, some (.int o), some (.int w), none]) ?_ rfl)).trans ?_
    · exact (dOp_ok ((dOp_ok (int1_ok (i := o) rfl) (y := .int 40009) rfl).trans (fMod_ok (by decide))) (y := .int 7) rfl).trans fAddA_ok
    refine (dSeq_nx (dAsg_ok (w := .int u) (h1 := h1) (ws' := [some (.ref t), some (.int m), none, some (.int o), some (.int w), some (.int u)]) ?_ rfl)).trans ?_
    · refine (dOp_ok (int1_ok ((dOp_ok ((dOp_ok ((dOp_ok (x := .int o) rfl (j2 _ rfl)).trans fAddA_ok) ((dOp_ok (j1 _ rfl) (y := .int 1000003) rfl).trans (fDivB_ok (by decide) (by decide)))).trans fAddA_ok) (y := .int w) rfl).trans (fMulC_ok (cMulB_r (by show -(2 ^ 64) < o % 40009 + 7 ∧ o % 40009 + 7 < 2 ^ 64; omega))))) (y := .int 2147483629) rfl).trans (fMod_ok (by decide))
    refine dRet_ok ?_
    exact (dOp_ok (int1_ok ((dOp_ok ((dOp_ok (int1_ok ((dOp_ok ((dOp_ok (x := .int u) (y := .int 48271) rfl rfl).trans (fMulC_ok (cMulB_r (by decide)))) (y := .int o) rfl).trans fAddA_ok)) (y := .int 2147483587) rfl).trans (fMod_ok (by decide))) (y := .int 64) rfl).trans (fDivB_ok (by decide) (by decide)))) (y := .int m) rfl).trans (fMod_ok hm)
end M

set_option Elab.async false
set_option linter.all false
set_option maxRecDepth 100000
set_option maxHeartbeats 4000000
namespace M
open PySem PySem.Spec PyProof.Rows L2
/-! ### sorted, by halves -/
def mrgF {α : Type} (lt : α → α → Bool) : Nat → List α → List α → List α
  | 0, _, _ => []
  | n + 1, l, m => match l with
    | [] => m
    | x :: xs => match m with
      | [] => x :: xs
      | y :: ys => match lt y x with
        | true => y :: mrgF lt n (x :: xs) ys
        | false => x :: mrgF lt n xs (y :: ys)
open SrtO in
theorem mrg_ok {α : Type} {lt : α → α → Bool} (O : Swo lt) : ∀ (n : Nat) (l m : List α), l.length + m.length ≤ n → Srtd lt l → Srtd lt m → Srtd lt (mrgF lt n l m) ∧ Stb lt (mrgF lt n l m) (l ++ m)
  | 0, l, m, hn, _, _ => by
    have e1 : l = [] := List.eq_nil_of_length_eq_zero (by omega)
    have e2 : m = [] := List.eq_nil_of_length_eq_zero (by omega)
    subst e1; subst e2
    exact ⟨List.Pairwise.nil, Stb.refl _⟩
  | n + 1, [], m, _, _, h2 => ⟨h2, Stb.refl _⟩
  | n + 1, x :: xs, [], _, h1, _ => ⟨h1, by rw [List.append_nil]; exact Stb.refl _⟩
  | n + 1, x :: xs, y :: ys, hn, h1, h2 => by
    unfold mrgF
    dsimp only
    cases e : lt y x with
    | true =>
      obtain ⟨a, b⟩ := mrg_ok O n (x :: xs) ys (by simp at hn ⊢; omega) h1 (List.pairwise_cons.mp h2).2
      dsimp only
      refine ⟨List.pairwise_cons.mpr ⟨fun z hz => ?_, a⟩, ?_⟩
      · have hm := b.perm.mem_iff.mp hz
        rcases List.mem_append.mp hm with q | q
        · exact O.asym _ _ (O.lt_all h1 e z q)
        · exact srtd_head h2 z q
      · have s1 : Stb lt (y :: mrgF lt n (x :: xs) ys) ([y] ++ ((x :: xs) ++ ys)) := Stb.app (Stb.refl [y]) b
        have s2 : Stb lt ([y] ++ (x :: xs)) ((x :: xs) ++ [y]) := Stb.swap O fun a ha b hb => by rw [List.mem_singleton.mp ha]; exact O.lt_all h1 e b hb
        have s3 : Stb lt ([y] ++ ((x :: xs) ++ ys)) ((x :: xs) ++ y :: ys) := by
          have := Stb.app s2 (Stb.refl ys)
          simpa using this
        exact s1.trans s3
    | false =>
      obtain ⟨a, b⟩ := mrg_ok O n xs (y :: ys) (by simp at hn ⊢; omega) (List.pairwise_cons.mp h1).2 h2
      dsimp only
      refine ⟨List.pairwise_cons.mpr ⟨fun z hz => ?_, a⟩, ?_⟩
      · have hm := b.perm.mem_iff.mp hz
        rcases List.mem_append.mp hm with q | q
        · exact srtd_head h1 z q
        · exact O.le_all h2 e z q
      · exact Stb.app (Stb.refl [x]) b
def msortF {α : Type} (lt : α → α → Bool) : Nat → List α → List α
  | 0, l => isort lt l
  | f + 1, l => match l with
    | [] => []
    | [x] => [x]
    | x :: y :: r => mrgF lt (x :: y :: r).length (msortF lt f ((x :: y :: r).take ((x :: y :: r).length / 2))) (msortF lt f ((x :: y :: r).drop ((x :: y :: r).length / 2)))
open SrtO in
theorem msortF_ok {α : Type} {lt : α → α → Bool} (O : Swo lt) : ∀ (f : Nat) (l : List α), Srtd lt (msortF lt f l) ∧ Stb lt (msortF lt f l) l
  | 0, l => isort_ok O l
  | f + 1, [] => ⟨List.Pairwise.nil, Stb.refl _⟩
  | f + 1, [x] => ⟨srtd_one x, Stb.refl _⟩
  | f + 1, x :: y :: r => by
    obtain ⟨a1, a2⟩ := msortF_ok O f ((x :: y :: r).take ((x :: y :: r).length / 2))
    obtain ⟨b1, b2⟩ := msortF_ok O f ((x :: y :: r).drop ((x :: y :: r).length / 2))
    obtain ⟨c1, c2⟩ := mrg_ok O (x :: y :: r).length _ _ (by rw [a2.perm.length_eq, b2.perm.length_eq, ← List.length_append, List.take_append_drop]; exact Nat.le_refl _) a1 b1
    refine ⟨c1, c2.trans ((Stb.app a2 b2).trans ?_)⟩
    rw [List.take_append_drop]
    exact Stb.refl _
def msort {α : Type} (lt : α → α → Bool) (l : List α) : List α := msortF lt 20 l
theorem msort_eq {α : Type} {lt : α → α → Bool} (O : SrtO.Swo lt) (l : List α) : msort lt l = isort lt l := isort_eq O (msortF_ok O 20 l).1 (msortF_ok O 20 l).2
theorem swoW : SrtO.Swo ltW := by
  refine ⟨fun x y h => ?_, fun x y z h1 h2 => ?_⟩
  · unfold ltW at h ⊢
    have a := SrtO.lexB_iff.mp h
    refine SrtO.lexB_no.mpr ?_
    omega
  · unfold ltW at h1 h2 ⊢
    have a := SrtO.lexB_no.mp h1
    have b := SrtO.lexB_no.mp h2
    refine SrtO.lexB_no.mpr ?_
    omega
def fSortM (xs : List W) (h : MH) : Res W := match xs with
  | [w] => (match litems w h with
    | some ys => (match allI ys with
      | some is => .ok (.ref h.n) (h.push (.lst ((msort (fun x y : Int => decide (x < y)) is).map W.int)))
      | none => (match ys.all isPr with
        | true => .ok (.ref h.n) (h.push (.lst (msort ltW ys)))
        | false => .stuck))
    | none => .stuck)
  | _ => .stuck
theorem fSortM_eq : fSortM = fSorted := by
  funext xs h
  unfold fSortM fSorted
  simp only [msort_eq swoW, msort_eq swoI]
  all_goals rfl
section
variable {g : Gd} {X : Cx} {Wx : WX} {e a b c : Expr} {pos : Pos} {tg : Expr}
theorem x_sortM (hK : X.K = g.K) {p : Pos} {es : List Expr} {ra : Dn (List W)} (hg : Gl X "sorted") (hm : X.mg "sorted" = none) (ha : PA X (e :: es) (tA g Wx ra)) (he : starEach (e :: es) X.env = (false, eval e X.env) :: starEach es X.env := by rfl) (hpl : (backTo pos (starEach es X.env)).any (·.1) = false := by rfl) :
    PE X (.Call (.Name "sorted" p) (e :: es) [] pos) (tE g Wx (dOne fSortM ra)) := by
  rw [fSortM_eq]
  exact x_sorted hK hg hm ha he hpl
end
end M

set_option Elab.async false
set_option linter.all false
set_option maxRecDepth 100000
set_option maxHeartbeats 4000000
namespace M
open PySem PySem.Spec PyProof.Rows L2
def isT (r : Res W) : Bool := match r with | .ok (.bl b) _ => b | _ => false
theorem iso_true {m : List W → MH → Res W} {ws : List W} {h : MH} (h1 : noRefs ws = true) (h2 : isT (m ws ⟨0, []⟩) = true) : mIso m ws h = .ok (.bl true) h := by
  unfold mIso
  rw [h1]
  dsimp only
  cases e : m ws ⟨0, []⟩ with
  | ok w h' =>
    rw [e] at h2
    cases w with
    | bl b =>
      have : b = true := h2
      subst this
      rfl
    | _ => cases h2
  | exc c fs h' => rw [e] at h2; cases h2
  | stuck => rw [e] at h2; cases h2
theorem chkN_ok {np : Nat} {m : List W → MH → Res W} {ws : List W} {h : MH} (e : Nat.beq ws.length np = true) : chkN np m ws h = m ws h := by
  unfold chkN
  rw [e]
/-- the law's own promise -/
def spLaw (K : PySem.W.Frag) : Sp := fun vs H Q _ => ∃ (a : Addr) (ns : List Int), vs = [.ref a] ∧ Only H ∧ SqL K H a (ns.map V.int) ∧ ns.length ≤ 63 ∧ ∀ H', Q (.bl true) H'
theorem fro_of {K : PySem.W.Frag} {H : Hp} {a : Addr} {vs : List V} (o : Only H) (h : SqL K H a vs) : Fro K H a vs := by
  rcases h with (h | ⟨ob, h⟩) | h
  · rcases o a with q | ⟨_, _, q⟩
    · rw [q] at h; cases h
    · rw [q] at h; cases h
  · exact .inl ⟨ob, h⟩
  · exact .inr (.inr h)
theorem relInts' {g : Gd} {ρ : Nat → Addr} {n : Nat} {H : Hp} : ∀ is : List Int, RelWs g ρ n H (is.map W.int) (is.map V.int)
  | [] => .nil
  | i :: is => .cons (by simp only [RelW]) (relInts' is)
theorem law_of {P : Program} {w : World} {mg : Str → Option Value} {base : Heap} {g : Gd} {k : Nat} {f : Addr} {fd : FuncData} {m : List W → MH → Res W} (htb : g.tb = []) (F : FnOk P w g.K mg base (L2.CX P w) k f fd ["script"] (spM g m 1)) (hv : ∀ ns : List Int, ns.length ≤ 63 → ∃ h', m [.fro (ns.map W.int)] ⟨0, []⟩ = .ok (.bl true) h') :
    FnOk P w g.K mg base (L2.CX P w) k f fd ["script"] (spLaw g.K) := F.imp fun vs H Q E ⟨a, ns, e, o, hs, hl, q⟩ => by
  subst e
  obtain ⟨h', eh⟩ := hv ns hl
  refine ⟨rfl, fun _ => 0, [.fro (ns.map W.int)], ⟨0, []⟩, sim_none (fun p hp => absurd hp (by rw [htb]; simp)), ?_, ?_⟩
  · refine .cons ?_ .nil
    simp only [RelW]
    exact ⟨a, ns.map V.int, rfl, fro_of o hs, relInts' ns⟩
  · rw [eh]
    intro ρ' H' v X s r
    simp only [RelW] at r
    subst r
    exact q H'
theorem defAt_of {K : PySem.W.Frag} {h : Heap} {mg : Str → Option Value} {x : Str} {st : Stmt} {ps : List Str} {f : Addr} {oc : Value} {od an : Option Addr} {osl : Array (Option Value)} {kV doc pm cdv ct : Value} (X : K.In h) (G : h.Ns mainGlobals mg)
    (a : PySem.W.nsIn K mainGlobals x = some (some (.ref f)))
    (l : K.lookup f = some ⟨oc, od, .func (PySem.W.fnOf x x (defArgs st) (defBody st) (defScope st) .none kV doc pm an cdv ct), osl⟩) (c : PySem.W.codeIn K cdv x = true) (k : PySem.W.keepIn K (.ref f) = true)
    (hb : ∀ (kV doc pm : Value) (an : Option Addr) (cdv ct : Value) (us : List Value), us.length = ps.length → bindArgs (PySem.W.fnOf x x (defArgs st) (defBody st) (defScope st) .none kV doc pm an cdv ct) ⟨us, []⟩ = pure (ps.zip us)) : DefAt K mg x st ps :=
  ⟨f, _, fun_mk l c k, (fun_mk l c k).binds hb, PySem.W.mg_of X G a⟩
structure ExcIn (K : PySem.W.Frag) (x : Str) (C : Addr) : Prop where
  a : PySem.W.nsIn K mainGlobals x = some (some (.ref C))
  q : PySem.W.excIn K C bmVE "ValueError.__new__" = true
  kp : PySem.W.keepIn K (.ref C) = true
  sub : PySem.W.subIn K (.ref C) (.type "BaseException") = some true
  ty : PySem.W.typeIn K (.ref C) = some (.type "type")
  cl : PySem.W.isClsIn K C = true
  hg : PySem.W.findIn K (.ref C) "__getattribute__" = some (some (.builtin "BaseException.__getattribute__"))
  hk : PySem.W.findIn K (.ref C) "__getattr__" = some none
  hd : PySem.W.hasDictIn K C = true
  ha : PySem.W.findIn K (.ref C) "__class__" = some (some (.builtin "object.__class__"))
  hn : PySem.W.specialIn K (.builtin "object.__class__") "__get__" = some (some (.builtin "getset_descriptor.__get__"))
  ht : PySem.W.takesIn K (.builtin "object.__class__") = some true
  hm : PySem.W.mroIn K C (.type "object") = some true
  sv : PySem.W.subIn K (.ref C) (.type "ValueError") = some true
theorem kit_of {K : PySem.W.Frag} {C : Addr} (h : PySem.W.subIn K (.ref C) (.type "ValueError") = some true) : PySem.W.kitOne K (.ref C) (.type "ValueError") = some true := by
  have e1 : (Value.ref C == Value.type "ValueError") = false := rfl
  have e2 : PySem.W.kitMeta "ValueError" = true := by decide +kernel
  unfold PySem.W.kitOne
  rw [e1, if_neg Bool.false_ne_true]
  unfold PySem.W.kitCls
  dsimp only
  rw [if_pos e2]
  exact h
theorem ExcIn.at {K : PySem.W.Frag} {h : Heap} {mg : Str → Option Value} {x : Str} {C : Addr} (X : K.In h) (G : h.Ns mainGlobals mg) (e : ExcIn K x C) {g : Gd} {k : Nat} (hK : g.K = K) (hC : g.cad k = C) : ExcAt g mg x k := by
  subst hK
  subst hC
  exact ⟨e.q, PySem.W.mg_of X G e.a, e.kp, e.sub, e.ty, e.cl, ⟨e.hg, e.hk, e.sub, e.hd, e.ha, e.hn, e.ht, e.hm⟩, kit_of e.sv⟩
end M

set_option Elab.async false
set_option linter.all false
set_option maxRecDepth 100000
set_option maxHeartbeats 4000000
namespace M
open PySem PySem.Spec PyProof.Rows L2
/-! ### calls by keywords -/
section
variable {g : Gd} {X : Cx} {Wx : WX} {e a b c : Expr} {pos : Pos} {tg : Expr}
structure PKm (g : Gd) (Wx : WX) (X : Cx) (kws : List Keyword) (m : Dn (List W)) : Prop where
  pk : PK X kws (tA g Wx m)
theorem mk_nil : PKm g Wx X [] dNil := ⟨⟨fun pos pins s σ H Q I q => by
  obtain ⟨ρ, ws, h, S, sl, fin⟩ := q
  exact pk_nil.run pos pins s σ H Q I (Fin.here (R := RelWs g) (a := []) S RelWs.nil fin)⟩⟩
theorem mk_cons {nm : Option Str} {kpos : Pos} {kws : List Keyword} {m : Dn W} {r : Dn (List W)} (ha : PE X e (tE g Wx m)) (hr : PKm g Wx X kws r) : PKm g Wx X (⟨nm, e, kpos⟩ :: kws) (dCons m r) :=
  ⟨⟨fun pos pins s σ H Q I q => (pk_cons ha hr.pk).run pos pins s σ H Q I (two_reads (R1 := RelW g) (R2 := RelWs g) (R3 := RelWs g) (G := fun vx vy H => Q (vx :: vy) H) (fun X q => q.ext X) q fun ρ h H x y vx vy S r1 r2 f => f.here S (.cons r1 r2))⟩⟩
def perm {α : Type} (ix : List Nat) (xs : List α) : List α := ix.filterMap (xs[·]?)
/-- what keywords ks bind, one for each of ps, in the order ix -/
def KwB (st : Stmt) (x : Str) (ps ks : List Str) (ix : List Nat) : Prop := ∀ (kV doc pm : Value) (an : Option Addr) (cdv ct : Value) (s : Shared) (us : List Value), us.length = ks.length →
  BindsTo s (PySem.W.fnOf x x (defArgs st) (defBody st) (defScope st) .none kV doc pm an cdv ct) ⟨[], ks.zip us⟩ (ps.zip (perm ix us))
def fKw (nk np : Nat) (ix : List Nat) (m : List W → MH → Res W) (xs : List W) (h : MH) : Res W := match Nat.beq xs.length nk, Nat.beq (perm ix xs).length np with
  | true, true => m (perm ix xs) h
  | _, _ => .stuck
theorem m_kw {k np : Nat} {m : List W → MH → Res W} {x : Str} {p : Pos} {st : Stmt} {ps ks : List Str} {ix : List Nat} {kws : List Keyword} {r : Dn (List W)} (F : Ok g X.prog X.w X.mg X.base x m np k) (D : DefAt g.K X.mg x st ps) (B : KwB st x ps ks ix) (hps : ps = (defArgs st).args.map (·.arg))
    (hK : X.K = g.K) (hr : Room k X.A) (hg : Gl X x) (tk : Takes X Wx) (ha : PKm g Wx X kws r) (hall : (backToKw pos (keywordEach kws X.env)).all (·.1.isSome) = true := by rfl) (hks : (backToKw pos (keywordEach kws X.env)).filterMap (·.1) = ks := by rfl)
    (hplain : ((backTo pos (starEach [] X.env)).any (·.1) || (backToKw pos (keywordEach kws X.env)).any (·.1.isNone)) = false := by rfl) (hdb : (x == ("__debug__" : Str)) = false := by decide) :
    PE X (.Call (.Name x p) [] kws pos) (tE g Wx (dOne (fKw ks.length np ix m) r)) := by
  obtain ⟨f, fd, ps', F, hm, hk, _, ⟨oc, od, osl, lk⟩, eps⟩ := F.ex
  obtain ⟨f', fd', Fn, _, hm'⟩ := D.ex
  rw [hm] at hm'
  cases hm'
  obtain ⟨oc', od', kV, doc, pm, an, cdv, ct, osl', e', lk', _⟩ := Fn.ex
  rw [lk] at lk'
  have efd : fd = fd' := by
    have := Option.some.inj lk'
    injection this with _ _ h3 _
    injection h3
  subst efd
  have ep : ps' = ps := by rw [eps, e']; exact hps.symm
  subst ep
  rw [← hK] at F hk
  refine ⟨fun pins s σ H Q I q => ?_⟩
  refine wpAny_Call_Name_kw (ld_glob I hg hm ?_ hdb)
  refine PySem.W.callWith_KW0 (h₀ := X.base) I.ok.mod.kin hk hall (thn (ha.pk.run pos pins s σ H (fun vs H1 => vs.length = ks.length ∧ spM g m np (perm ix vs) H1 Q (WE Wx σ)) I ?_) fun us s1 ⟨vs, H1, I1, rr, hl, hsp⟩ => ⟨I1.kIn, ?_⟩) hplain
  · refine one_reads (R1 := RelWs g) q fun ρ h H x vx S r f => ?_
    unfold fKw at f
    split at f
    · rename_i e1 e2
      refine ⟨by rw [r.len]; exact Nat.eq_of_beq_eq_true e1, ?_, ρ, perm ix x, h, S, rel_pick r ix, f⟩
      have := rel_pick r ix
      unfold perm at e2 ⊢
      rw [this.len]
      exact Nat.eq_of_beq_eq_true e2
    · exact f.elim
  · rw [hks]
    have hlu : us.length = ks.length := by rw [← rr.length]; exact hl
    have bt := B kV doc pm an cdv ct s1 us hlu
    rw [← e'] at bt
    have vp : Vals (perm ix vs) (perm ix us) := vals_pick rr ix
    refine wpAny_call (codeAny_mono (F.run X.A X.stack s1 H1 ⟨[], ks.zip us⟩ (perm ix us) (perm ix vs) Q (WE Wx σ) hr I1.env0 bt vp hsp) fun rs s' hq => ?_)
    cases rs with
    | error e => exact passAt tk σ pins H1 s1 e s' I1 hq
    | ok fl =>
      cases fl with
      | ret u => exact I1.after hq
      | next => exact hq.elim
      | brk => exact hq.elim
      | cont => exact hq.elim

/-! ### a < b < c -/
theorem m_chain {op op' : CmpOp} {f f' : W → W → MH → Res W} {ma mb mc : Dn W} (C : Cmp1 g X op f) (C' : Cmp1 g X op' f') (ha : PE X a (tE g Wx ma)) (hb : PE X b (tE g Wx mb)) (hc : PE X c (tE g Wx mc)) (hm : lastMarks [op, op'] [b, c] = false := by with_unfolding_all rfl) :
    PE X (.Compare a [op, op'] [b, c] pos) (tE g Wx (dChain f f' ma mb mc)) := by
  obtain ⟨r1, h1, h2⟩ := C.ex
  obtain ⟨r2, h3, h4⟩ := C'.ex
  refine weak (pe_chain h1 h3 ha hb hc hm) fun σ H Q q => ?_
  obtain ⟨ρ, ws, h, S, sl, fin⟩ := q
  refine ⟨ρ, ws, h, S, sl, (Fin.bnd (R := RelW g) fin).mono fun vx H1 ⟨ρ1, k1, wx, X1, S1, x1, f1⟩ => ?_⟩
  refine ⟨ρ1, ws, k1, S1, sl.ext X1, (Fin.bnd (R := RelW g) f1).mono fun vy H2 ⟨ρ2, k2, wy, X2, S2, x2, f2⟩ => ?_⟩
  refine h2 ρ2 k2 H2 wx wy vx vy _ (fun c d H' => Wx c d σ H') S2 (x1.ext X2) x2 ((Fin.bnd (R := RelW g) f2).mono fun vz H3 ⟨ρ3, k3, wz, X3, S3, x3, f3⟩ => ?_)
  cases wz with
  | bl k =>
    simp only [RelW] at x3
    refine ⟨k, x3, ?_⟩
    cases k with
    | true =>
      rw [if_pos rfl]
      refine ⟨ρ3, ws, k3, S3, ((sl.ext X1).ext X2).ext X3, (Fin.bnd (R := RelW g) f3).mono fun vu H4 ⟨ρ4, k4, wu, X4, S4, x4, f4⟩ => ?_⟩
      exact h4 ρ4 k4 H4 wy wu vy vu Q _ S4 ((x2.ext X3).ext X4) x4 f4
    | false =>
      rw [if_neg Bool.false_ne_true]
      exact f3.here S3 (by simp only [RelW])
  | _ => exact f3.elim
end
end M

set_option Elab.async false
set_option linter.all false
set_option maxRecDepth 100000
set_option maxHeartbeats 4000000
namespace M
open PySem PySem.Spec PyProof.Rows L2
open PySem.W (alike alikeAll dataLt dataLe AllAlike Sortable EachIs)

/-! # sorted, of nested data -/
mutual
/-- x < y of ints, of tuples of such -/
def ltD : PyData → PyData → Bool
  | .int a, .int b => decide (a < b)
  | .tuple xs, .tuple ys => ltDs xs ys
  | _, _ => false
def ltDs : List PyData → List PyData → Bool
  | [], [] => false
  | [], _ :: _ => true
  | _ :: _, [] => false
  | x :: xs, y :: ys => match PyData.eqv x y with
    | true => ltDs xs ys
    | false => ltD x y
end
mutual
/-- ints, tuples of such -/
def nestI : PyData → Bool
  | .int _ => true
  | .tuple xs => nestIs xs
  | _ => false
def nestIs : List PyData → Bool
  | [] => true
  | x :: xs => match nestI x with | true => nestIs xs | false => false
end
theorem nestIs_cons {x : PyData} {xs : List PyData} (h : nestIs (x :: xs) = true) : nestI x = true ∧ nestIs xs = true := by
  unfold nestIs at h
  split at h
  · rename_i e; exact ⟨e, h⟩
  · cases h
theorem toks_nil : PySem.W.keyToksAll [] = [.inl 0] := by unfold PySem.W.keyToksAll; rfl
theorem lex_nil_cons (y : PyData) (ys : List PyData) : PyProof.Rows.lexLt PyProof.Rows.itemOrd (PySem.W.keyToksAll []) (PySem.W.keyToksAll (y :: ys)) = true := by
  rw [toks_nil, PySem.W.toks_all_cons]
  rfl
theorem lex_cons_nil (y : PyData) (ys : List PyData) : PyProof.Rows.lexLt PyProof.Rows.itemOrd (PySem.W.keyToksAll (y :: ys)) (PySem.W.keyToksAll []) = false := by
  rw [toks_nil, PySem.W.toks_all_cons]
  rfl
mutual
theorem lt_eq : ∀ (x y : PyData), nestI x = true → alike x y = true → dataLt x y = ltD x y
  | .int a, .int b, _, _ => by rw [PySem.W.dataLt_int]; unfold ltD; rfl
  | .tuple xs, .tuple ys, h, e => by
    rw [PySem.W.dataLt_tuple]
    unfold ltD
    exact lts_eq xs ys (by simpa only [nestI] using h) (by simpa only [alike] using e)
  | .int _, .none, _, e => by simp [alike] at e
  | .int _, .bool _, _, e => by simp [alike] at e
  | .int _, .str _, _, e => by simp [alike] at e
  | .int _, .list _, _, e => by simp [alike] at e
  | .int _, .tuple _, _, e => by simp [alike] at e
  | .int _, .dict _, _, e => by simp [alike] at e
  | .tuple _, .none, _, e => by simp [alike] at e
  | .tuple _, .bool _, _, e => by simp [alike] at e
  | .tuple _, .str _, _, e => by simp [alike] at e
  | .tuple _, .list _, _, e => by simp [alike] at e
  | .tuple _, .int _, _, e => by simp [alike] at e
  | .tuple _, .dict _, _, e => by simp [alike] at e
  | .none, _, h, _ => by simp [nestI] at h
  | .bool _, _, h, _ => by simp [nestI] at h
  | .str _, _, h, _ => by simp [nestI] at h
  | .list _, _, h, _ => by simp [nestI] at h
  | .dict _, _, h, _ => by simp [nestI] at h
theorem lts_eq : ∀ (xs ys : List PyData), nestIs xs = true → alikeAll xs ys = true → PyProof.Rows.lexLt PyProof.Rows.itemOrd (PySem.W.keyToksAll xs) (PySem.W.keyToksAll ys) = ltDs xs ys
  | [], [], _, _ => by unfold ltDs; exact lex_irrefl _
  | [], y :: ys, _, _ => by rw [lex_nil_cons]; unfold ltDs; rfl
  | x :: xs, [], _, _ => by rw [lex_cons_nil]; unfold ltDs; rfl
  | x :: xs, y :: ys, h, e => by
    obtain ⟨h1, h2⟩ := nestIs_cons h
    obtain ⟨e1, e2⟩ := PySem.W.alike_all_cons e
    rw [PySem.W.dataLt_cons e1]
    unfold ltDs
    cases q : PyData.eqv x y with
    | true => rw [if_pos rfl]; exact lts_eq xs ys h2 e2
    | false => rw [if_neg Bool.false_ne_true]; exact lt_eq x y h1 e1
end

section
variable {X : Cx}
/-- sorted(xs), xs a list of data that can be compared -/
def rSortedD (K : PySem.W.Frag) : List V → Hp → VK → Prop := fun vs H Q => ∃ (a : Addr) (xs : List V) (ds : List PyData), vs = [V.ref a] ∧ SqL K H a xs ∧ DpAll K H xs ds ∧ AllAlike ds ∧ Sortable ds ∧ (∀ d ∈ ds, d.depth ≤ 60) ∧
  ∀ p, H p = none → Q (.ref p) (upd H p (.lst (((xs.zip ds).mergeSort (dataLe false Prod.snd)).map Prod.fst)))
theorem each_zip {I : Value → PyData → Prop} : ∀ {xs : List V} {us : List Value} {ds : List PyData}, Vals xs us → xs.length = ds.length → (∀ (i : Nat) (x : V) (u : Value) (d : PyData), xs[i]? = some x → us[i]? = some u → ds[i]? = some d → RelV x u → I u d) →
    EachIs (fun u (b : V × PyData) => RelV b.1 u ∧ I u b.2) us (xs.zip ds)
  | [], _, [], .nil, _, _ => .nil
  | [], _, _ :: _, .nil, h, _ => by simp at h
  | _ :: _, _, [], .cons _ _, h, _ => by simp at h
  | x :: xs, _, d :: ds, .cons r t, h, f => .cons ⟨r, f 0 x _ d rfl rfl rfl r⟩ (each_zip t (by simpa using h) fun i x u d e1 e2 e3 => f (i + 1) x u d (by simpa using e1) (by simpa using e2) (by simpa using e3))
theorem dp_at {K : PySem.W.Frag} {H : Hp} : ∀ {xs : List V} {ds : List PyData} {i : Nat} {x : V} {d : PyData}, DpAll K H xs ds → xs[i]? = some x → ds[i]? = some d → Dp K H x d
  | _, _, _, _, _, .nil, e, _ => by simp at e
  | _, _, 0, _, _, .cons a b, e1, e2 => by
    simp at e1 e2
    rw [← e1, ← e2]; exact a
  | _, _, i + 1, _, _, .cons a b, e1, e2 => dp_at b (by simpa using e1) (by simpa using e2)
theorem dp_len {K : PySem.W.Frag} {H : Hp} : ∀ {xs : List V} {ds : List PyData}, DpAll K H xs ds → xs.length = ds.length
  | _, _, .nil => rfl
  | _, _, .cons _ b => by simp [dp_len b]
theorem vals_each : ∀ {us : List Value} {bs : List (V × PyData)}, EachIs (fun u (b : V × PyData) => RelV b.1 u) us bs → Vals (bs.map Prod.fst) us
  | _, _, .nil => .nil
  | _, _, .cons h t => .cons h (vals_each t)
theorem cr_sortedD {k : Nat} (hr : Room k X.A) : CallR X (.builtin "sorted") (rSortedD X.K) := by
  intro pins s σ H vs us Q I r h
  obtain ⟨a, xs, ds, rfl, hs, hd, ha, hso, hdep, q⟩ := h
  obtain ⟨its, rv, hl, hz⟩ := I.list hs
  rw [Vals.ref1 r]
  have hlen := dp_len hd
  have both : EachIs (fun u (b : V × PyData) => RelV b.1 u ∧ ∃ as, PySem.Reads s.heap u b.2 as) its (xs.zip ds) := each_zip rv hlen fun i x u d e1 e2 e3 rx => Dp.reads I d x u (dp_at hd e1 e3) rx
  have snds : (xs.zip ds).map Prod.snd = ds := by rw [List.map_snd_zip]; omega
  have hzl : (xs.zip ds).length = xs.length := by rw [List.length_zip]; omega
  refine PySem.W.sorted_data (R := fun u (b : V × PyData) => RelV b.1 u) (enc := Prod.snd) (bs := xs.zip ds) hl.isList (both.mono fun _ _ h => h.1) (both.mono fun _ _ h => h.2) (by rw [snds]; exact ha) (by rw [snds]; exact hso) (by rw [hzl]; exact hz) (fun b hb => ?_) fun out ho eo => ?_
  · have := hdep b.2 (by rw [← snds]; exact List.mem_map.mpr ⟨b, hb, rfl⟩)
    have := hr.units
    omega
  · have hn : H (s.heap.objs.size + 1) = none := I.hok.fresh (Nat.le_succ _)
    obtain ⟨c, hc⟩ := PyProof.Rows.sortedAll_at s.heap its out.toArray
    have v2 := vals_each eo
    refine ⟨.ref (s.heap.objs.size + 1), _, I.laid (t' := s.toks) (o := .lst (((xs.zip ds).mergeSort (dataLe false Prod.snd)).map Prod.fst)) (fun b o e => PyProof.Rows.sortedAll_old e) (Nat.le_succ _) ⟨?_, out, c, v2, hc⟩, rfl, q _ hn⟩
    rw [v2.length, ho, hzl]
    exact hz
end
/-! ### in the small heap -/
def allAlike (ds : List PyData) : Bool := ds.all fun d => ds.all fun e => alike d e
def isTup1 : PyData → Bool
  | .tuple (_ :: _) => true
  | _ => false
def isIntD : PyData → Bool
  | .int _ => true
  | _ => false
def sortOk (ds : List PyData) : Bool := ds.all nestI && (allAlike ds && (ds.all isTup1 || ds.all isIntD))
def leP (b b' : W × PyData) : Bool := !ltD b'.2 b.2
def fSortD (xs : List W) (h : MH) : Res W := match xs with
  | [w] => (match litems w h with
    | some ys => (match mapD (toD 60 h) ys with
      | some ds => (match sortOk ds with
        | true => .ok (.ref h.n) (h.push (.lst ((PySem.W.mergeSortF leP (ys.zip ds).length (ys.zip ds)).map Prod.fst)))
        | false => .stuck)
      | none => .stuck)
    | none => .stuck)
  | _ => .stuck
theorem map3 {α β γ : Type} {r : α × γ → α × γ → Bool} {s : β × γ → β × γ → Bool} (T : List (α × β × γ)) (h : ∀ a ∈ T, ∀ b ∈ T, r (a.1, a.2.2) (b.1, b.2.2) = s (a.2.1, a.2.2) (b.2.1, b.2.2)) :
    ∃ T' : List (α × β × γ), (∀ t ∈ T', t ∈ T) ∧ ((T.map fun t => (t.1, t.2.2)).mergeSort r).map Prod.fst = T'.map (·.1) ∧ ((T.map fun t => (t.2.1, t.2.2)).mergeSort s).map Prod.fst = T'.map (·.2.1) := by
  refine ⟨T.mergeSort fun a b => r (a.1, a.2.2) (b.1, b.2.2), fun t ht => List.mem_mergeSort.mp ht, ?_, ?_⟩
  · rw [← List.map_mergeSort (r := fun a b : α × β × γ => r (a.1, a.2.2) (b.1, b.2.2)) (s := r) (f := fun t : α × β × γ => (t.1, t.2.2)) fun a _ b _ => rfl, List.map_map]
    rfl
  · rw [← List.map_mergeSort (r := fun a b : α × β × γ => r (a.1, a.2.2) (b.1, b.2.2)) (s := s) (f := fun t : α × β × γ => (t.2.1, t.2.2)) fun a ha b hb => h a ha b hb, List.map_map]
    rfl
section
variable {g : Gd} {X : Cx} {Wx : WX} {e a b c : Expr} {pos : Pos} {tg : Expr} {ρ : Nat → Addr} {n : Nat} {H : Hp}
theorem zip3 : ∀ {ys : List W} {vs : List V} {ds : List PyData}, RelWs g ρ n H ys vs → ys.length = ds.length → ∃ T : List (W × V × PyData), T.map (fun t => (t.1, t.2.2)) = ys.zip ds ∧ T.map (fun t => (t.2.1, t.2.2)) = vs.zip ds ∧ (∀ t ∈ T, RelW g ρ n H t.1 t.2.1 ∧ t.2.2 ∈ ds)
  | [], vs, ds, r, _ => ⟨[], by simp, by rw [r.inv_nil]; simp, by simp⟩
  | y :: ys, vs, [], r, h => by simp at h
  | y :: ys, vs, d :: ds, r, h => by
    obtain ⟨v, us, rfl, r1, r2⟩ := r.inv_cons
    obtain ⟨T, h1, h2, h3⟩ := zip3 (ds := ds) r2 (by simpa using h)
    refine ⟨(y, v, d) :: T, by simp [h1], by simp [h2], fun t ht => ?_⟩
    rcases List.mem_cons.mp ht with q | q
    · rw [q]; exact ⟨r1, List.mem_cons_self⟩
    · exact ⟨(h3 t q).1, List.mem_cons_of_mem _ (h3 t q).2⟩
theorem relMap : ∀ {T : List (W × V × PyData)}, (∀ t ∈ T, RelW g ρ n H t.1 t.2.1) → RelWs g ρ n H (T.map (·.1)) (T.map (·.2.1))
  | [], _ => .nil
  | t :: T, h => .cons (h t List.mem_cons_self) (relMap fun t ht => h t (List.mem_cons_of_mem _ ht))
theorem oSortD : CallS g (rSortedD g.K) fSortD := by
  intro ρ h H xs vs Q E S r f
  unfold fSortD at f
  split at f
  · rename_i w
    obtain ⟨v, rfl, r1⟩ := one_of r
    split at f
    · rename_i ys e
      obtain ⟨a, us, rfl, hs, rr⟩ := litems_ok S r1 e
      split at f
      · rename_i ds e2
        split at f
        · rename_i ok
          obtain ⟨d1, _, d3⟩ := mapD_ok S (fun w v d q rw => toD_ok S 60 w v d q rw) ys us ds e2 rr
          unfold sortOk at ok
          obtain ⟨o1, ok⟩ := Bool.and_eq_true_iff.mp ok
          obtain ⟨o2, o3⟩ := Bool.and_eq_true_iff.mp ok
          have al : AllAlike ds := fun d hd d' hd' => List.all_eq_true.mp (List.all_eq_true.mp o2 d hd) d' hd'
          have ne : ∀ d ∈ ds, nestI d = true := fun d hd => List.all_eq_true.mp o1 d hd
          refine ⟨a, us, ds, rfl, hs, d1, al, ?_, fun d hd => ?_, fun p hp => ?_⟩
          · rcases Bool.or_eq_true_iff.mp o3 with q | q
            · refine .inl fun d hd => ?_
              have := List.all_eq_true.mp q d hd
              unfold isTup1 at this
              split at this
              · exact ⟨_, _, rfl⟩
              · cases this
            · refine .inr fun d hd => ?_
              have := List.all_eq_true.mp q d hd
              unfold isIntD at this
              split at this
              · exact ⟨by simp, by simp⟩
              · cases this
          · have : ∀ (l : List PyData) (d : PyData), d ∈ l → d.depth ≤ PyData.depthAll l := by
              intro l d
              induction l with
              | nil => simp
              | cons x l ih =>
                intro hm
                simp only [PyData.depthAll]
                rcases List.mem_cons.mp hm with z | z
                · rw [z]; omega
                · have := ih z; omega
            exact Nat.le_trans (this ds d hd) d3
          · have ly : ys.length = ds.length := by rw [← rr.len]; exact dp_len d1
            obtain ⟨T, t1, t2, t3⟩ := zip3 rr ly
            obtain ⟨T', m1, m2, m3⟩ := map3 (r := leP) (s := dataLe false Prod.snd) T fun a ha b hb => by
              show (!ltD b.2.2 a.2.2) = (!dataLt b.2.2 a.2.2)
              rw [lt_eq _ _ (ne _ (t3 b hb).2) (al _ (t3 b hb).2 _ (t3 a ha).2)]
            rw [t1] at m2
            rw [t2] at m3
            rw [← PySem.W.mergeSortF_eq leP (ys.zip ds).length (ys.zip ds) (Nat.le_refl _), m2] at f
            rw [m3]
            exact f.push S (relMap fun t ht => (t3 t (m1 t ht)).1) hp
        · exact f.elim
      · exact f.elim
    · exact f.elim
  · exact f.elim
theorem x_sortD (hK : X.K = g.K) {k : Nat} (hr : Room k X.A) {p : Pos} {es : List Expr} {ra : Dn (List W)} (hg : Gl X "sorted") (hm : X.mg "sorted" = none) (ha : PA X (e :: es) (tA g Wx ra)) (he : starEach (e :: es) X.env = (false, eval e X.env) :: starEach es X.env := by rfl) (hpl : (backTo pos (starEach es X.env)).any (·.1) = false := by rfl) :
    PE X (.Call (.Name "sorted" p) (e :: es) [] pos) (tE g Wx (dOne fSortD ra)) := m_callB (cr_sortedD hr) (by rw [hK]; exact oSortD) hg hm (by decide +kernel) ha (by decide) (by decide) he hpl
end
end M

set_option Elab.async false
set_option linter.all false
set_option maxRecDepth 100000
set_option maxHeartbeats 4000000
namespace M
open PySem PySem.Spec PyProof.Rows L2
open PySem.W (alike alikeAll dataLt dataLe AllAlike Sortable EachIs)
section
variable {g : Gd} {X : Cx} {Wx : WX} {e a b c : Expr} {pos : Pos} {tg : Expr}
/-! ### True - False -/
def b01 (k : Bool) : Int := if k = true then 1 else 0
def rSubB : R2 := fun x y H Q => ∃ p q, x = .bl p ∧ y = .bl q ∧ Q (.int (b01 p - b01 q)) H
theorem op_subB : OpR X (binaryOp .Sub) rSubB := by
  rintro pins s σ H _ _ _ _ Q I rx ry ⟨p, q, rfl, rfl, k⟩
  cases rx
  cases ry
  exact PyProof.Rows.sub_bool ⟨.int _, H, I.tok _, ⟨_, rfl⟩, k⟩
def fSubA (x y : W) (h : MH) : Res W := match x with
  | .bl p => (match y with | .bl q => .ok (.int (b01 p - b01 q)) h | _ => .stuck)
  | _ => fSub x y h
theorem oSubA : OpS g (fun x y H Q => (rI0 fun i j => .int (i - j)) x y H Q ∨ rSubB x y H Q) fSubA := by
  intro ρ h H x y vx vy Q E S r1 r2 f
  cases x with
  | bl p =>
    unfold fSubA at f
    cases y with
    | bl q =>
      simp only [RelW] at r1 r2
      subst r1; subst r2
      exact .inr ⟨p, q, rfl, rfl, f.here S (by simp only [RelW])⟩
    | _ => exact f.elim
  | _ => exact .inl (oI ρ h H _ y vx vy Q E S r1 r2 f)
theorem m_subA {ma mb : Dn W} (ha : PE X a (tE g Wx ma)) (hb : PE X b (tE g Wx mb)) : PE X (.BinOp a .Sub b pos) (tE g Wx (dOp fSubA ma mb)) := m_op (op_sub.or op_subB) oSubA ha hb

/-! ### range(i, j, c) -/
def nRngC (lo c : Int) (n : Nat) : Nx := fun i _ => some (match Nat.blt i n with
  | true => some (.int (lo + (i : Nat) * c))
  | false => none)
theorem ok_rngC {lo c : Int} {n : Nat} : ItOk g (Itc lo c n) (fun _ _ _ => True) (nRngC lo c n) where
  ext := fun _ _ => trivial
  out2 := fun _ _ _ _ => trivial
  go := fun ρ h H i w S _ q => by
    unfold nRngC at q
    split at q
    · rename_i e
      injection q with q; injection q with q
      exact ⟨blt_ok e, fun v H' ⟨e1, e2⟩ => by
        subst e1; subst e2
        exact ⟨S.refl, S, by rw [← q]; simp only [RelW]⟩⟩
    · cases q
  stop := fun ρ h H i S _ q => by
    unfold nRngC at q
    split at q
    · cases q
    · rename_i e
      refine Nat.not_lt.mp fun z => ?_
      have : Nat.blt i n = true := by
        unfold Nat.blt
        exact Nat.ble_eq_true_of_le z
      rw [this] at e
      cases e
def rgCount (i j c : Int) : Option Nat := match decide (c = 0), decide (c.natAbs < 1073741824), Builtin.Range.small i j c with
  | false, true, true => (match decide (0 ≤ Builtin.Range.rangeSize i j c) with
    | true => some (Builtin.Range.rangeSize i j c).toNat
    | false => none)
  | _, _, _ => none
theorem rgCount_ok {i j c : Int} {n : Nat} (e : rgCount i j c = some n) : RgC i j c n := by
  unfold rgCount at e
  split at e
  · rename_i e1 e2 e3
    split at e
    · rename_i e4
      injection e with e
      have := of_decide_eq_true e4
      exact ⟨of_decide_eq_false e1, of_decide_eq_true e2, e3, by rw [← e]; omega⟩
    · cases e
  · cases e
def fRng3 (xs : List W) (h : MH) : Res Nx := match xs with
  | [.int i, .int j, .int c] => (match rgCount i j c with | some n => .ok (nRngC i c n) h | none => .stuck)
  | _ => .stuck
theorem mi_rng3 {p : Pos} {m : Dn (List W)} (hg : Gl X "range") (hm : X.mg "range" = none) (ha : PA X [a, b, c] (tA g Wx m)) (hs : starEach [a, b, c] X.env = (false, eval a X.env) :: starEach [b, c] X.env := by rfl) (hpl : (backTo pos (starEach [b, c] X.env)).any (·.1) = false := by rfl) :
    PI X tg (.Call (.Name "range" p) [a, b, c] [] pos) (tI g Wx (dOne fRng3 m)) :=
  weakI (pi_range3 hg hm ha hs hpl) fun σ H R q => oneI_reads (R := RelWs g) q fun ρ h H x vx S r f => by
    unfold fRng3 at f
    split at f
    · rename_i i j c
      split at f
      · rename_i n e
        obtain ⟨v1, _, rfl, r1, r⟩ := r.inv_cons
        obtain ⟨v2, u, rfl, r2, r⟩ := r.inv_cons
        obtain ⟨v3, _, rfl, r3, r⟩ := r.inv_cons
        rw [r.inv_nil]
        simp only [RelW] at r1 r2 r3
        subst r1; subst r2; subst r3
        exact ⟨i, j, c, n, rfl, rgCount_ok e, f ρ H _ S.refl S ⟨_, ok_rngC, trivial⟩⟩
      · exact f.elim
    · exact f.elim

/-! ### min of nested data -/
def rMinDt (K : PySem.W.Frag) : List V → Hp → VK → Prop := fun vs H Q => ∃ (a : Addr) (xs : List V) (d : PyData) (ds : List PyData), vs = [V.ref a] ∧ (SqL K H a xs ∨ SqT K H a xs) ∧ DpAll K H xs (d :: ds) ∧ PySem.W.AlikeAll (d :: ds) ∧ PyData.depthAll (d :: ds) ≤ 60 ∧
  ∀ (i : Nat) (v : V), xs[i]? = some v → (d :: ds)[i]? = some (PySem.W.minD d ds) → Q v H
theorem reads_at {h : Heap} : ∀ {vs : List Value} {ds : List PyData} {as : List Addr}, ReadsAll h vs ds as → ∀ (i : Nat) (v : Value), vs[i]? = some v → ∃ d bs, ds[i]? = some d ∧ PySem.Reads h v d bs
  | _, _, _, .nil, _, _, e => by simp at e
  | _, _, _, .cons r t, 0, v, e => by
    simp at e
    subst e
    exact ⟨_, _, rfl, r⟩
  | _, _, _, .cons r t, i + 1, v, e => by
    obtain ⟨d, bs, e1, e2⟩ := reads_at t i v (by simpa using e)
    exact ⟨d, bs, by simpa using e1, e2⟩
theorem minD_mem (d : PyData) (ds : List PyData) : PySem.W.minD d ds ∈ d :: ds := by
  unfold PySem.W.minD
  induction ds generalizing d with
  | nil => simp
  | cons x ds ih =>
    rw [List.foldl_cons]
    by_cases q : dataLt x d = true
    · rw [if_pos q]
      exact List.mem_cons_of_mem _ (ih x)
    · rw [if_neg q]
      rcases List.mem_cons.mp (ih d) with z | z
      · rw [z]; exact List.mem_cons_self
      · exact List.mem_cons_of_mem _ (List.mem_cons_of_mem _ z)
theorem cr_minD {k : Nat} (hc : X.calm = true) (hr : Room k X.A) : CallR X (.builtin "min") (rMinDt X.K) := by
  rintro pins s σ H _ us Q I r ⟨a, xs, d, ds, rfl, hs, hd, al, dep, q⟩
  rw [Vals.ref1 r]
  have room : X.A.units + 1 + PyData.depthAll (d :: ds) < cLine := by have := hr.units; omega
  have fin : ∀ (its : List Value), Vals xs its → ∀ (i : Nat) (v : Value) (h' : Heap) (tk : Nat) (bs : List Addr), its.toArray[i]? = some v → PySem.Reads h' v (PySem.W.minD d ds) bs → (∀ b o, s.heap.get? b = some o → h'.get? b = some o) → EP X pins σ Q v { s with heap := h', toks := tk } := by
    intro its rv i v h' tk bs hi hrd keep
    have hi' : its[i]? = some v := by simpa using hi
    have : ∃ x, xs[i]? = some x ∧ RelV x v := by
      cases e : xs[i]? with
      | none => rw [rv.none_of e] at hi'; cases hi'
      | some x =>
        obtain ⟨u, e2, ru⟩ := rv.get e
        rw [hi'] at e2
        cases e2
        exact ⟨x, rfl, ru⟩
    obtain ⟨x, ex, rx⟩ := this
    obtain ⟨as, ra⟩ := Dp.readsAll I (d :: ds) xs its hd rv
    obtain ⟨d', bs', e1, e2⟩ := reads_at ra i v hi'
    have e3 : d' = PySem.W.minD d ds := PySem.W.alike_unique _ _ _ _ _ (al.1 _ (List.mem_of_getElem? e1) _ (minD_mem d ds)) (PySem.W.reads_keeps keep e2) hrd
    exact ⟨x, H, I.kept (t' := tk) keep, rx, q i x ex (by rw [e1, e3])⟩
  rcases hs with hs | hs
  · obtain ⟨its, rv, hl, hz⟩ := I.list hs
    obtain ⟨as, ra⟩ := Dp.readsAll I (d :: ds) xs its hd rv
    exact PySem.W.min_list_data (I.ok.hd hc) hl.isList (by simpa using ra) al room fun i v h' tk bs => fin its rv i v h' tk bs
  · obtain ⟨its, rv, hl, hz⟩ := I.tuple hs
    obtain ⟨as, ra⟩ := Dp.readsAll I (d :: ds) xs its hd rv
    exact PySem.W.min_tuple_data (I.ok.hd hc) hl (by simpa using ra) al room fun i v h' tk bs => fin its rv i v h' tk bs
end
mutual
theorem toD_inj {h : MH} : ∀ (f : Nat) (w w' : W) (d : PyData), toD f h w = some d → toD f h w' = some d → nestI d = true → w = w'
  | 0, _, _, _, e, _, _ => by simp [toD] at e
  | f + 1, w, w', d, e, e', n => by
    cases d with
    | int i =>
      have a : ∀ u, toD (f + 1) h u = some (.int i) → u = .int i := by
        intro u q
        cases u with
        | int j => simp only [toD] at q; injection q with q; injection q with q; rw [q]
        | tup xs => simp only [toD] at q; obtain ⟨_, _, q⟩ := Option.map_eq_some_iff.mp q; cases q
        | fro xs => simp only [toD] at q; obtain ⟨_, _, q⟩ := Option.map_eq_some_iff.mp q; cases q
        | str x => simp only [toD] at q; split at q <;> cases q
        | ref k =>
          simp only [toD] at q
          split at q
          · obtain ⟨_, _, q⟩ := Option.map_eq_some_iff.mp q; cases q
          · cases q
        | _ => simp only [toD] at q; first | cases q | (injection q with q; cases q)
      rw [a w e, a w' e']
    | tuple ds =>
      have a : ∀ u, toD (f + 1) h u = some (.tuple ds) → ∃ xs, u = .tup xs ∧ mapD (toD f h) xs = some ds := by
        intro u q
        cases u with
        | int j => simp only [toD] at q; injection q with q; cases q
        | tup xs => simp only [toD] at q; obtain ⟨ds', e1, q⟩ := Option.map_eq_some_iff.mp q; injection q with q; exact ⟨xs, rfl, by rw [← q]; exact e1⟩
        | fro xs => simp only [toD] at q; obtain ⟨_, _, q⟩ := Option.map_eq_some_iff.mp q; cases q
        | str x => simp only [toD] at q; split at q <;> cases q
        | ref k =>
          simp only [toD] at q
          split at q
          · obtain ⟨_, _, q⟩ := Option.map_eq_some_iff.mp q; cases q
          · cases q
        | _ => simp only [toD] at q; first | cases q | (injection q with q; cases q)
      obtain ⟨xs, rfl, m1⟩ := a w e
      obtain ⟨ys, rfl, m2⟩ := a w' e'
      rw [mapD_inj f xs ys ds m1 m2 (by simpa only [nestI] using n)]
    | _ => simp [nestI] at n
theorem mapD_inj {h : MH} : ∀ (f : Nat) (xs ys : List W) (ds : List PyData), mapD (toD f h) xs = some ds → mapD (toD f h) ys = some ds → nestIs ds = true → xs = ys
  | f, [], [], _, _, _, _ => rfl
  | f, [], y :: ys, ds, e, e', _ => by
    simp only [mapD] at e e'
    injection e with e
    subst e
    split at e' <;> cases e'
  | f, x :: xs, [], ds, e, e', _ => by
    simp only [mapD] at e e'
    injection e' with e'
    subst e'
    split at e <;> cases e
  | f, x :: xs, y :: ys, ds, e, e', n => by
    simp only [mapD] at e e'
    split at e
    · rename_i d1 r1 a1 a2
      injection e with e
      subst e
      split at e'
      · rename_i d2 r2 b1 b2
        injection e' with e'
        injection e' with q1 q2
        subst q1; subst q2
        obtain ⟨n1, n2⟩ := nestIs_cons n
        rw [toD_inj f x y _ a1 b1 n1, mapD_inj f xs ys _ a2 b2 n2]
      · cases e'
    · cases e
end
end M

set_option Elab.async false
set_option linter.all false
set_option maxRecDepth 100000
set_option maxHeartbeats 4000000
namespace M
open PySem PySem.Spec PyProof.Rows L2
open PySem.W (alike alikeAll dataLt dataLe AllAlike Sortable EachIs)
/-! ### min, in the small heap -/
def mnP (a : W × PyData) : List (W × PyData) → W × PyData
  | [] => a
  | y :: r => match ltD y.2 a.2 with | true => mnP y r | false => mnP a r
theorem mnP_ok : ∀ (ys : List W) (ds : List PyData) (a : W × PyData), ys.length = ds.length → (∀ d ∈ a.2 :: ds, nestI d = true) → (∀ d ∈ a.2 :: ds, ∀ e ∈ a.2 :: ds, alike d e = true) →
    (mnP a (ys.zip ds)).2 = PySem.W.minD a.2 ds ∧ (mnP a (ys.zip ds) = a ∨ mnP a (ys.zip ds) ∈ ys.zip ds)
  | [], [], a, _, _, _ => ⟨rfl, .inl rfl⟩
  | [], _ :: _, _, h, _, _ => by simp at h
  | _ :: _, [], _, h, _, _ => by simp at h
  | y :: ys, d :: ds, a, h, n, al => by
    have e : dataLt d a.2 = ltD d a.2 := lt_eq _ _ (n d (by simp)) (al d (by simp) a.2 (by simp))
    have unf : PySem.W.minD a.2 (d :: ds) = PySem.W.minD (if dataLt d a.2 then d else a.2) ds := rfl
    rw [unf, List.zip_cons_cons]
    unfold mnP
    dsimp only
    cases q : ltD d a.2 with
    | true =>
      rw [e, q, if_pos rfl]
      have sub : ∀ x ∈ (y, d).2 :: ds, x ∈ a.2 :: d :: ds := fun x hx => List.mem_cons_of_mem _ hx
      obtain ⟨h1, h2⟩ := mnP_ok ys ds (y, d) (by simpa using h) (fun x hx => n x (sub x hx)) (fun x hx z hz => al x (sub x hx) z (sub z hz))
      refine ⟨h1, .inr ?_⟩
      rcases h2 with z | z
      · rw [z]; exact List.mem_cons_self
      · exact List.mem_cons_of_mem _ z
    | false =>
      rw [e, q, if_neg Bool.false_ne_true]
      have sub : ∀ x ∈ a.2 :: ds, x ∈ a.2 :: d :: ds := fun x hx => by
        rcases List.mem_cons.mp hx with z | z
        · rw [z]; exact List.mem_cons_self
        · exact List.mem_cons_of_mem _ (List.mem_cons_of_mem _ z)
      obtain ⟨h1, h2⟩ := mnP_ok ys ds a (by simpa using h) (fun x hx => n x (sub x hx)) (fun x hx z hz => al x (sub x hx) z (sub z hz))
      refine ⟨h1, ?_⟩
      rcases h2 with z | z
      · exact .inl z
      · exact .inr (List.mem_cons_of_mem _ z)
def fMinDt (xs : List W) (h : MH) : Res W := match xs with
  | [w] => (match items w h with
    | some (y :: ys) => (match toD 60 h y, mapD (toD 60 h) ys with
      | some d, some ds => (match (d :: ds).all nestI && allAlike (d :: ds) with
        | true => .ok (mnP (y, d) (ys.zip ds)).1 h
        | false => .stuck)
      | _, _ => .stuck)
    | _ => .stuck)
  | _ => .stuck
section
variable {g : Gd} {X : Cx} {Wx : WX} {e a b c : Expr} {pos : Pos} {tg : Expr}
theorem mapD_at {h : MH} {f : Nat} : ∀ {xs : List W} {ds : List PyData} {i : Nat} {d : PyData}, mapD (toD f h) xs = some ds → ds[i]? = some d → ∃ w, xs[i]? = some w ∧ toD f h w = some d
  | [], ds, i, d, e, e2 => by
    simp only [mapD] at e
    injection e with e
    subst e
    simp at e2
  | x :: xs, ds, i, d, e, e2 => by
    simp only [mapD] at e
    split at e
    · rename_i d1 r1 a1 a2
      injection e with e
      subst e
      cases i with
      | zero =>
        simp at e2
        subst e2
        exact ⟨x, rfl, a1⟩
      | succ i => exact mapD_at (i := i) a2 (by simpa using e2)
    · cases e
theorem mapD_len {h : MH} {f : Nat} : ∀ {xs : List W} {ds : List PyData}, mapD (toD f h) xs = some ds → xs.length = ds.length
  | [], ds, e => by
    simp only [mapD] at e
    injection e with e
    rw [← e]; rfl
  | x :: xs, ds, e => by
    simp only [mapD] at e
    split at e
    · rename_i d1 r1 a1 a2
      injection e with e
      rw [← e]
      simp [mapD_len a2]
    · cases e
theorem zip_at : ∀ {ys : List W} {ds : List PyData} {p : W × PyData}, p ∈ ys.zip ds → ∃ i : Nat, ys[i]? = some p.1 ∧ ds[i]? = some p.2
  | [], _, p, h => by simp at h
  | _ :: _, [], p, h => by simp at h
  | y :: ys, d :: ds, p, h => by
    rw [List.zip_cons_cons] at h
    rcases List.mem_cons.mp h with q | q
    · rw [q]; exact ⟨0, rfl, rfl⟩
    · obtain ⟨i, h1, h2⟩ := zip_at q
      exact ⟨i + 1, by simpa using h1, by simpa using h2⟩
theorem oMinDt : CallS g (rMinDt g.K) fMinDt := by
  intro ρ h H xs vs Q E S r f
  unfold fMinDt at f
  split at f
  · rename_i w
    obtain ⟨v, rfl, r1⟩ := one_of r
    split at f
    · rename_i y ys e
      obtain ⟨a, us, rfl, hs, rr⟩ := items_ok S r1 e
      split at f
      · rename_i d ds e1 e2
        split at f
        · rename_i ok
          obtain ⟨o1, o2⟩ := Bool.and_eq_true_iff.mp ok
          have m : mapD (toD 60 h) (y :: ys) = some (d :: ds) := by simp only [mapD, e1, e2]
          obtain ⟨d1, _, d3⟩ := mapD_ok S (fun w v d q rw => toD_ok S 60 w v d q rw) (y :: ys) us (d :: ds) m rr
          have al : ∀ x ∈ d :: ds, ∀ z ∈ d :: ds, alike x z = true := fun x hx z hz => List.all_eq_true.mp (List.all_eq_true.mp o2 x hx) z hz
          have ne : ∀ x ∈ d :: ds, nestI x = true := fun x hx => List.all_eq_true.mp o1 x hx
          obtain ⟨p1, p2⟩ := mnP_ok ys ds (y, d) (mapD_len e2) ne al
          refine ⟨a, us, d, ds, rfl, hs, d1, ⟨al, fun x hx z => by have := ne x hx; rw [z] at this; simp [nestI] at this⟩, d3, fun i v hi hd => ?_⟩
          obtain ⟨w1, hw1, hd1⟩ := mapD_at m hd
          obtain ⟨v', hv', rv'⟩ := rr.get hw1
          rw [hi] at hv'
          cases hv'
          -- the mirror's own pick is the same W
          have pick : toD 60 h (mnP (y, d) (ys.zip ds)).1 = some (mnP (y, d) (ys.zip ds)).2 := by
            rcases p2 with q | q
            · rw [q]; exact e1
            · obtain ⟨j, j1, j2⟩ := zip_at q
              obtain ⟨w2, k1, k2⟩ := mapD_at e2 j2
              rw [j1] at k1
              cases k1
              exact k2
          rw [p1] at pick
          have same : w1 = (mnP (y, d) (ys.zip ds)).1 := toD_inj 60 _ _ _ hd1 pick (ne _ (minD_mem d ds))
          rw [← same] at f
          exact f.here S rv'
        · exact f.elim
      · exact f.elim
    · exact f.elim
  · exact f.elim
theorem x_minD (hK : X.K = g.K) {k : Nat} (hc : X.calm = true) (hr : Room k X.A) {p : Pos} {es : List Expr} {ra : Dn (List W)} (hg : Gl X "min") (hm : X.mg "min" = none) (ha : PA X (e :: es) (tA g Wx ra)) (he : starEach (e :: es) X.env = (false, eval e X.env) :: starEach es X.env := by rfl) (hpl : (backTo pos (starEach es X.env)).any (·.1) = false := by rfl) :
    PE X (.Call (.Name "min" p) (e :: es) [] pos) (tE g Wx (dOne fMinDt ra)) := m_callB (cr_minD hc hr) (by rw [hK]; exact oMinDt) hg hm (by decide +kernel) ha (by decide) (by decide) he hpl

/-! ### xs.index(y) -/
def ixD (d : PyData) : List PyData → Nat → Option Nat
  | [], _ => none
  | x :: r, i => match PyData.eqv x d with | true => some i | false => ixD d r (i + 1)
theorem ixD_ok {d : PyData} : ∀ {ds : List PyData} {i j : Nat}, ixD d ds i = some j → ∃ k, j = i + k ∧ (∃ z, ds[k]? = some z ∧ PyData.eqv z d = true) ∧ ∀ m z, m < k → ds[m]? = some z → PyData.eqv z d = false
  | [], _, _, e => by simp [ixD] at e
  | x :: r, i, j, e => by
    unfold ixD at e
    cases q : PyData.eqv x d with
    | true =>
      rw [q] at e
      injection e with e
      exact ⟨0, by omega, ⟨x, rfl, q⟩, fun m z h => absurd h (Nat.not_lt_zero m)⟩
    | false =>
      rw [q] at e
      obtain ⟨k, h1, ⟨z, h2, h3⟩, h4⟩ := ixD_ok e
      refine ⟨k + 1, by omega, ⟨z, by simpa using h2, h3⟩, fun m z hm hz => ?_⟩
      cases m with
      | zero => simp at hz; rw [← hz]; exact q
      | succ m => exact h4 m z (by omega) (by simpa using hz)
def fIndex (x : W) (xs : List W) (h : MH) : Res W := match xs with
  | [y] => (match litems x h, toD 60 h y with
    | some ys, some d => (match mapD (toD 59 h) ys with
      | some ds => (match ixD d ds 0 with
        | some j => .ok (.int (j : Nat)) h
        | none => .stuck)
      | none => .stuck)
    | _, _ => .stuck)
  | _ => .stuck
theorem oIndex : MS g (rIndexD g.K) fIndex := by
  intro ρ h H x vx xs vs Q E S r1 r2 f
  unfold fIndex at f
  split at f
  · rename_i y
    split at f
    · rename_i ys d e1 e2
      split at f
      · rename_i ds e3
        split at f
        · rename_i j e4
          obtain ⟨v, rfl, rv⟩ := one_of r2
          obtain ⟨a, us, rfl, hs, rr⟩ := litems_ok S r1 e1
          obtain ⟨b1, b2, b3⟩ := toD_ok S 60 y v d e2 rv
          obtain ⟨c1, c2, c3⟩ := mapD_ok S (fun w v d q rw => toD_ok S 59 w v d q rw) ys us ds e3 rr
          obtain ⟨k, h1, ⟨z, h2, h3⟩, h4⟩ := ixD_ok e4
          have ej : j = k := by omega
          subst ej
          exact ⟨a, v, d, ds, j, z, rfl, rfl, .lst hs c1, b1, shaped_of (by simp only [PyData.canLay0]; exact c2) (by simp only [PyData.depth]; omega), shaped_of b2 b3, h2, h3, h4, f.here S (by simp only [RelW])⟩
        · exact f.elim
      · exact f.elim
    · exact f.elim
  · exact f.elim
theorem m_index (hK : X.K = g.K) {k : Nat} (hr : Room k X.A) (hu : X.A.units + 65 < cLine) {o : Expr} {apos : Pos} {m : Dn W} {ra : Dn (List W)} (ho : PE X o (tE g Wx m)) (ha : PA X [e] (tA g Wx ra))
    (hbase : attributeBase o "index" X.env (eval o X.env) = eval o X.env := by rfl)
    (hfew : ((backTo pos (starEach [e] X.env)).all (fun x => !x.1) && (backToKw pos (keywordEach [] X.env)).all (fun x => x.1.isSome)
      && decide ([e].length + ([] : List Keyword).length + (if ([] : List Keyword).isEmpty then 0 else 1) < 30)) = true := by rfl)
    (hline : (apos.endLine == pos.line) = true := by rfl) (hs : starEach [e] X.env = (false, eval e X.env) :: starEach [] X.env := by rfl) : PE X (.Call (.Attribute o "index" apos) [e] [] pos) (tE g Wx (dMeth isL fIndex m ra)) :=
  m_meth hK ck_list (by rw [hK]; exact oIndex) PySem.F.plainAttrs_list PySem.F.slot_list_index PySem.F.type_list_index (mt_indexD hu) ho ha hbase hfew hline hs
end
end M

set_option Elab.async false
set_option linter.all false
set_option maxRecDepth 100000
set_option maxHeartbeats 4000000
namespace M
open PySem PySem.Spec PyProof.Rows L2
section
variable {g : Gd} {X : Cx} {Wx : WX} {e a b c : Expr} {pos : Pos} {tg : Expr}
/-- what the first leaves stuck the second does -/
def orElse_ (f f' : List W → MH → Res W) (xs : List W) (h : MH) : Res W := match f xs h with
  | .stuck => f' xs h
  | r => r
theorem CallS.or_ {r r' : List V → Hp → VK → Prop} {f f' : List W → MH → Res W} (o : CallS g r f) (o' : CallS g r' f') : CallS g (fun xs H Q => r xs H Q ∨ r' xs H Q) (orElse_ f f') := by
  intro ρ h H xs vs Q E S rr q
  unfold orElse_ at q
  cases e : f xs h with
  | stuck => rw [e] at q; exact .inr (o' ρ h H xs vs Q E S rr q)
  | ok w h' => rw [e] at q; exact .inl (o ρ h H xs vs Q E S rr (by rw [e]; exact q))
  | exc c fs h' => rw [e] at q; exact .inl (o ρ h H xs vs Q E S rr (by rw [e]; exact q))
def fSortA := orElse_ fSortM fSortD
def fMinA := orElse_ fMin1 fMinDt
theorem x_sortA (hK : X.K = g.K) {k : Nat} (hr : Room k X.A) {p : Pos} {es : List Expr} {ra : Dn (List W)} (hg : Gl X "sorted") (hm : X.mg "sorted" = none) (ha : PA X (e :: es) (tA g Wx ra)) (he : starEach (e :: es) X.env = (false, eval e X.env) :: starEach es X.env := by rfl) (hpl : (backTo pos (starEach es X.env)).any (·.1) = false := by rfl) :
    PE X (.Call (.Name "sorted" p) (e :: es) [] pos) (tE g Wx (dOne fSortA ra)) :=
  m_callB ((cr_sortedI.or cr_sortedPO).or (cr_sortedD hr)) (by rw [hK]; exact CallS.or_ (by rw [fSortM_eq]; exact oSorted) oSortD) hg hm (by decide +kernel) ha (by decide) (by decide) he hpl
theorem x_minA (hK : X.K = g.K) {k : Nat} (hc : X.calm = true) (hr : Room k X.A) {p : Pos} {es : List Expr} {ra : Dn (List W)} (hg : Gl X "min") (hm : X.mg "min" = none) (ha : PA X (e :: es) (tA g Wx ra)) (he : starEach (e :: es) X.env = (false, eval e X.env) :: starEach es X.env := by rfl) (hpl : (backTo pos (starEach es X.env)).any (·.1) = false := by rfl) :
    PE X (.Call (.Name "min" p) (e :: es) [] pos) (tE g Wx (dOne fMinA ra)) :=
  m_callB ((cr_min hc).or (cr_minD hc hr)) (by rw [hK]; exact CallS.or_ oMin1 oMinDt) hg hm (by decide +kernel) ha (by decide) (by decide) he hpl
theorem m_indexR (hK : X.K = g.K) {k : Nat} (hr : Room k X.A) {o : Expr} {apos : Pos} {m : Dn W} {ra : Dn (List W)} (ho : PE X o (tE g Wx m)) (ha : PA X [e] (tA g Wx ra))
    (hbase : attributeBase o "index" X.env (eval o X.env) = eval o X.env := by rfl)
    (hfew : ((backTo pos (starEach [e] X.env)).all (fun x => !x.1) && (backToKw pos (keywordEach [] X.env)).all (fun x => x.1.isSome)
      && decide ([e].length + ([] : List Keyword).length + (if ([] : List Keyword).isEmpty then 0 else 1) < 30)) = true := by rfl)
    (hline : (apos.endLine == pos.line) = true := by rfl) (hs : starEach [e] X.env = (false, eval e X.env) :: starEach [] X.env := by rfl) : PE X (.Call (.Attribute o "index" apos) [e] [] pos) (tE g Wx (dMeth isL fIndex m ra)) :=
  m_index hK hr (by have := hr.un; omega) ho ha hbase hfew hline hs
/-! ### a < b < c, as a test -/
theorem chain_reads {op op' : CmpOp} {f f' : W → W → MH → Res W} {ma mb mc : Dn W} {r1 r2 : R2} (h2 : OpS g r1 f) (h4 : OpS g r2 f') {σ : L2.St} {H : Hp} {Q : VK} (q : tE g Wx (dChain f f' ma mb mc) σ H Q) : tChain r1 r2 (tE g Wx ma) (tE g Wx mb) (tE g Wx mc) σ H Q := by
  obtain ⟨ρ, ws, h, S, sl, fin⟩ := q
  refine ⟨ρ, ws, h, S, sl, (Fin.bnd (R := RelW g) fin).mono fun vx H1 ⟨ρ1, k1, wx, X1, S1, x1, f1⟩ => ?_⟩
  refine ⟨ρ1, ws, k1, S1, sl.ext X1, (Fin.bnd (R := RelW g) f1).mono fun vy H2 ⟨ρ2, k2, wy, X2, S2, x2, f2⟩ => ?_⟩
  refine h2 ρ2 k2 H2 wx wy vx vy _ (fun c d H' => Wx c d σ H') S2 (x1.ext X2) x2 ((Fin.bnd (R := RelW g) f2).mono fun vz H3 ⟨ρ3, k3, wz, X3, S3, x3, f3⟩ => ?_)
  cases wz with
  | bl k =>
    simp only [RelW] at x3
    refine ⟨k, x3, ?_⟩
    cases k with
    | true =>
      rw [if_pos rfl]
      refine ⟨ρ3, ws, k3, S3, ((sl.ext X1).ext X2).ext X3, (Fin.bnd (R := RelW g) f3).mono fun vu H4 ⟨ρ4, k4, wu, X4, S4, x4, f4⟩ => ?_⟩
      exact h4 ρ4 k4 H4 wy wu vy vu Q _ S4 ((x2.ext X3).ext X4) x4 f4
    | false =>
      rw [if_neg Bool.false_ne_true]
      exact f3.here S3 (by simp only [RelW])
  | _ => exact f3.elim
theorem mt_chain {op op' : CmpOp} {f f' : W → W → MH → Res W} {ma mb mc : Dn W} (C : Cmp1 g X op f) (C' : Cmp1 g X op' f') (ha : PE X a (tE g Wx ma)) (hb : PE X b (tE g Wx mb)) (hc : PE X c (tE g Wx mc)) (hm : lastMarks [op, op'] [b, c] = false := by with_unfolding_all rfl) :
    PT X (.Compare a [op, op'] [b, c] pos) (tT g Wx (dTest (dChain f f' ma mb mc))) := by
  obtain ⟨r1, h1, h2⟩ := C.ex
  obtain ⟨r2, h3, h4⟩ := C'.ex
  exact weakT (pt_chain h1 h3 ha hb hc hm) fun σ H Q q => chain_reads (op := op) (op' := op') h2 h4 (test_reads q)
theorem su_ret2 {a : Addr} {k i : Nat} {oe : Obj} {pn : List (Addr × Obj)} {m : Dn W} (hz : Zc (.ref (g.cad k)) none oe)
    (he : PE (X.suite a ((a, oe) :: pn)) e (tC1 (fun σ => σ[i]? = some (some (.ref a))) (tE g W0 m))) : PSs (X.suite a ((a, oe) :: pn)) [.Return (some e) pos] (tSu g k i (fun _ => dRet m) a (.ref (g.cad k)) none) := su_ret (D := 0) (sts := []) hz he
end
end M

set_option Elab.async false
set_option linter.all false
set_option maxRecDepth 100000
set_option maxHeartbeats 4000000
namespace M
open PySem PySem.Spec PyProof.Rows L2 HT
/-! # t[lo:hi:c] of tuples, c neither 0 nor 1 -/
/-- where it begins, how many -/
def stLo (n : Nat) (lo hi : Option Int) (c : Int) : Int := (Builtin.Slice.sliceAdjust lo hi c (n : Int)).1
def stK (n : Nat) (lo hi : Option Int) (c : Int) : Nat := Builtin.Slice.slicePlaces (Builtin.Slice.sliceAdjust lo hi c (n : Int)).1 (Builtin.Slice.sliceAdjust lo hi c (n : Int)).2 c
def stIx (n : Nat) (lo hi : Option Int) (c : Int) : List Nat := (List.range (stK n lo hi c)).map fun (m : Nat) => (stLo n lo hi c + (m : Int) * c).toNat
def pickT {α : Type} (xs : List α) (lo hi : Option Int) (c : Int) : List α := (stIx xs.length lo hi c).filterMap (xs[·]?)
section
variable {prog : Program} {w : World} {A : Around} {E : Value → Shared → Prop} {s : Shared}
theorem applied_step {sl : Addr} {vl vu vs : Value} {lo hi : Option Int} {c : Int} {n : Nat} {Q : Int × Int × Nat → Shared → Prop} (hs : s.heap.IsSliceOf sl vl vu vs) (pl : IsPart vl lo) (pu : IsPart vu hi) (ps : IsPart vs (some c)) (h0 : c ≠ 0)
    (h : Q (stLo n lo hi c, c, stK n lo hi c) s) : wpAny (model prog w) A (Builtin.Slice.sliceApplied (.ref sl) (pure (n : Int))) Q E s := by
  obtain ⟨os, hos, hcs, hds⟩ := id hs
  have nz : ¬ ((c == 0) = true) := fun z => h0 (by simpa using z)
  unfold Builtin.Slice.sliceApplied Builtin.Slice.sliceFields
  refine wpAny_bind (wpAny_bind (wpAny_field hos hds (x := vl) rfl (wpAny_bind (wpAny_field hos hds (x := vu) rfl (wpAny_bind (wpAny_field hos hds (x := vs) rfl (wpAny_pure ?_)))))))
  refine wpAny_bind (slicePart_ ps ?_)
  show wpAny _ _ (if (c == 0) = true then _ else _) _ _ s
  rw [if_neg nz]
  exact wpAny_bind (slicePart_ pl (wpAny_bind (slicePart_ pu (wpAny_bind (wpAny_pure (wpAny_pure h))))))
theorem tup_step {t sl : Addr} {items : List Value} {vl vu vs : Value} {lo hi : Option Int} {c : Int} {Q : Value → Shared → Prop} (ht : IsTup s.heap t items.toArray) (hs : s.heap.IsSliceOf sl vl vu vs) (pl : IsPart vl lo) (pu : IsPart vu hi) (ps : IsPart vs (some c)) (h0 : c ≠ 0) (h1 : c ≠ 1)
    (hsz : (pickT items lo hi c).length ≤ sizeLine) (h : Q (.ref s.heap.objs.size) { s with heap := s.heap.push { cls := .type "tuple", data := .seq (pickT items lo hi c).toArray } }) :
    wpAny (model prog w) A (getItem (.ref t) (.ref sl)) Q E s := by
  obtain ⟨os, hos, hcs, hds⟩ := id hs
  have isSl : s.TypeIs (.ref sl) "slice" := ⟨os, hos, hcs⟩
  have sz : items.toArray.size = items.length := List.size_toArray ..
  unfold getItem
  refine wpAny_holding ?_
  refine wpAny_bind (wpAny_sequenceKey ht.typeIs (by decide) ?_)
  refine wpAny_bind (wpAny_callSpecial?_slot (name := Str.ofString "__getitem__") ht.typeIs PyProof.Rows.slot_tuple_getitem (wpAny_call_entry PyProof.Rows.slot_tuple_getitem ht.typeIs entry_tuple_getitem ?_ (args_tuple_getitem _ _)))
  show wpAny _ _ (Builtin.Tuple.tupleItemsOf (.ref t) >>= _) _ _ s
  refine wpAny_bind (tupleItemsOf_ ht (wpAny_bind (wpAny_typeOf isSl ?_)))
  rw [if_pos (by decide)]
  refine wpAny_bind (applied_step hs pl pu ps h0 ?_)
  have part : ¬ ((stLo items.toArray.size lo hi c == 0 && c == 1 && stK items.toArray.size lo hi c == items.toArray.size) = true) := by
    intro q
    rw [Bool.and_eq_true, Bool.and_eq_true] at q
    exact h1 (by simpa using q.1.2)
  show wpAny _ _ (if (stLo items.toArray.size lo hi c == 0 && c == 1 && stK items.toArray.size lo hi c == items.toArray.size) = true then _ else _) _ _ s
  rw [if_neg part]
  have same : ((List.range (stK items.toArray.size lo hi c)).filterMap fun (m : Nat) => items.toArray[(stLo items.toArray.size lo hi c + (m : Int) * c).toNat]?) = pickT items lo hi c := by
    unfold pickT stIx
    rw [sz, List.filterMap_map]
    congr 1
    funext m
    simp
  rw [same]
  have fits : sizeOk (.seq (pickT items lo hi c).toArray) := by
    show (pickT items lo hi c).toArray.size ≤ sizeLine
    rw [List.size_toArray]
    exact hsz
  first
    | exact wpAny_bind (m := Builtin.Tuple.tupleExact _) (wpAny_newObj_type (wpAny_pure ⟨_, rfl, wpAny_pure h⟩) fits)
    | exact wpAny_bind (m := Builtin.Tuple.tupleExact _) (wpAny_newObj_type (wpAny_bind (wpAny_pure (wpAny_pure ⟨_, rfl, wpAny_pure h⟩))) fits)
    | exact wpAny_bind (wpAny_bind (m := Builtin.Tuple.tupleExact _) (wpAny_newObj_type (wpAny_pure (wpAny_pure ⟨_, rfl, wpAny_pure h⟩)) fits))
    | exact wpAny_bind (wpAny_bind (m := Builtin.Tuple.tupleExact _) (wpAny_newObj_type (wpAny_pure ⟨_, rfl, wpAny_pure h⟩) fits))
end
section
variable {g : Gd} {X : Cx} {Wx : WX} {e a b c : Expr} {pos : Pos} {tg : Expr}
def stepOk (c : Int) : Bool := match decide (c = 0), decide (c = 1) with | false, false => true | _, _ => false
/-- a[lo:hi:c] of a list or a tuple -/
def tStA (K : PySem.W.Frag) (te : TE) (tl tu ts : TO) : TE := fun σ H Q => te σ H fun x H1 => tl σ H1 fun lo H2 => tu σ H2 fun hi H3 => ts σ H3 fun st H4 =>
  (∃ a xs, x = .ref a ∧ SqL K H4 a xs ∧ st ≠ some 0 ∧ ∀ p, H4 p = none → Q (.ref p) (upd H4 p (.lst (pickG xs lo hi st)))) ∨
  (∃ a xs c, x = .ref a ∧ st = some c ∧ SqT K H4 a xs ∧ c ≠ 0 ∧ c ≠ 1 ∧ (pickT xs lo hi c).length ≤ sizeLine ∧ ∀ p, H4 p = none → Q (.ref p) (upd H4 p (.tup (pickT xs lo hi c))))
theorem pe_stepA {lo hi : Option Expr} {st : Expr} {te : TE} {tl tu ts : TO} {p2 : Pos} (he : PE X e te) (hl : PO X lo tl) (hu : PO X hi tu) (hs : PO X (some st) ts) : PE X (.Subscript e (.Slice lo hi (some st) p2) pos) (tStA X.K te tl tu ts) := by
  constructor
  intro pins s σ H Q I h
  refine Subscript_ (thn (he.run pins s σ H _ I h) fun v s1 ⟨x, H1, I1, r1, q1⟩ => ?_)
  refine wpAny_Slice (thn (hl.run pins s1 σ H1 _ I1 q1) fun vl s2 ⟨l, H2, I2, pl, q2⟩ => thn (hu.run pins s2 σ H2 _ I2 q2) fun vu s3 ⟨u, H3, I3, pu, q3⟩ => thn (hs.run pins s3 σ H3 _ I3 q3) fun vs s4 ⟨o, H4, I4, ps, q4⟩ => ?_)
  have later : Inv X pins σ H4 { s4 with heap := s4.heap.push { cls := .type "slice", data := .fields #[vl, vu, vs] } } := I4.kept (t' := s4.toks) fun b ob q => Heap.get?_push_of_some _ q
  rcases q4 with ⟨a, xs, ex, hx, h0, q⟩ | ⟨a, xs, k, ex, ek, hx, h0, h1, hz, q⟩
  · subst ex
    cases r1
    obtain ⟨its, r, isL, few⟩ := later.list hx
    have rp : Vals (pickG xs l u o) (pickG its l u o) := by unfold pickG; rw [r.length]; exact vals_pick r _
    refine tail_any (ops := [.ref a, .ref s4.heap.objs.size]) isL.isList.typeIs (PySem.slot_list_getitem.lookup) ?_ rfl
    refine wpAny_getItem_list_slice isL.isList (Heap.IsSliceOf.new _ vl vu vs) pl pu ps h0 ?_ (by rw [List.size_toArray, ← r.length]; exact few)
    rw [pick_arr]
    have small := slicePick_size_le its.toArray l u o
    rw [pick_arr, List.size_toArray, List.size_toArray, ← rp.length, ← r.length] at small
    exact ⟨.ref _, _, later.laid (t' := s4.toks) (o := .lst (pickG xs l u o)) (fun b ob q => Heap.get?_push_of_some _ q) (Nat.le_refl _) ⟨Nat.le_trans small few, _, 0, rp, Heap.get?_push_size _ rfl⟩, rfl, q _ (later.hok.fresh (Nat.le_refl _))⟩
  · subst ex; subst ek
    cases r1
    obtain ⟨its, r, isT, _⟩ := later.tuple hx
    have rp : Vals (pickT xs l u k) (pickT its l u k) := by
      unfold pickT
      rw [r.length]
      exact vals_pick r _
    refine tail_any (ops := [.ref a, .ref s4.heap.objs.size]) isT.typeIs (PyProof.Rows.slot_tuple_getitem.lookup) ?_ rfl
    refine tup_step isT (Heap.IsSliceOf.new _ vl vu vs) pl pu ps h0 h1 (by rw [← rp.length]; exact hz) ?_
    exact ⟨.ref _, _, later.laid (t' := s4.toks) (o := .tup (pickT xs l u k)) (fun b ob q => Heap.get?_push_of_some _ q) (Nat.le_refl _) ⟨hz, _, rp, IsTup.new _ _⟩, rfl, q _ (later.hok.fresh (Nat.le_refl _))⟩
def fStepA (x : W) (lo hi st : Option Int) (h : MH) : Res W := match x with
  | .tup xs => (match st with
    | some c => (match stepOk c, lenOk (pickT xs lo hi c) with
      | true, true => .ok (.tup (pickT xs lo hi c)) h
      | _, _ => .stuck)
    | none => .stuck)
  | x => fStep x lo hi st h
def dStepA (m : Dn W) (l u t : Dn (Option Int)) : Dn W := fun ws h => (m ws h).bnd fun x h1 => (l ws h1).bnd fun lo h2 => (u ws h2).bnd fun hi h3 => (t ws h3).bnd fun st h4 => fStepA x lo hi st h4
theorem m_stepA (hK : X.K = g.K) {lo hi : Option Expr} {st : Expr} {m : Dn W} {l u t : Dn (Option Int)} {p2 : Pos} (he : PE X e (tE g Wx m)) (hl : PO X lo (tO g Wx l)) (hu : PO X hi (tO g Wx u)) (hs : PO X (some st) (tO g Wx t)) : PE X (.Subscript e (.Slice lo hi (some st) p2) pos) (tE g Wx (dStepA m l u t)) :=
  weak (pe_stepA he hl hu hs) fun σ H Q x => by
    obtain ⟨ρ, ws, h, S, sl, fin⟩ := x
    refine ⟨ρ, ws, h, S, sl, (Fin.bnd (R := RelW g) fin).mono fun vx H1 ⟨ρ1, h1, wx, X1, S1, r1, f1⟩ => ?_⟩
    refine ⟨ρ1, ws, h1, S1, sl.ext X1, (Fin.bnd (R := ROI) f1).mono fun lo H2 ⟨ρ2, h2, lo', X2, S2, r2, f2⟩ => ?_⟩
    refine ⟨ρ2, ws, h2, S2, (sl.ext X1).ext X2, (Fin.bnd (R := ROI) f2).mono fun hi H3 ⟨ρ3, h3, hi', X3, S3, r3, f3⟩ => ?_⟩
    refine ⟨ρ3, ws, h3, S3, ((sl.ext X1).ext X2).ext X3, (Fin.bnd (R := ROI) f3).mono fun st H4 ⟨ρ4, h4, st', X4, S4, r4, f4⟩ => ?_⟩
    have e2 : lo' = lo := r2
    have e3 : hi' = hi := r3
    have e4 : st' = st := r4
    subst e2; subst e3; subst e4
    have r := ((r1.ext X2).ext X3).ext X4
    have lists : fStepA wx lo' hi' st' h4 = fStep wx lo' hi' st' h4 → ∃ a vs, vx = .ref a ∧ SqL X.K H4 a vs ∧ st' ≠ some 0 ∧ ∀ p, H4 p = none → Q (.ref p) (upd H4 p (.lst (pickG vs lo' hi' st'))) := by
      intro same
      rw [same] at f4
      unfold fStep at f4
      cases e0 : isZ st' with
      | true => rw [e0] at f4; exact f4.elim
      | false =>
      cases e : litems wx h4 with
      | none => rw [e0, e] at f4; exact f4.elim
      | some xs =>
        rw [e0, e] at f4
        have e1 : st' ≠ some 0 := fun z => by rw [z] at e0; simp [isZ] at e0
        obtain ⟨a, vs, rfl, hs, rr⟩ := litems_ok S4 r e
        refine ⟨a, vs, rfl, by rw [hK]; exact hs, e1, fun p hp => f4.push S4 ?_ hp⟩
        unfold pickG
        rw [rr.len]
        exact rel_pick rr _
    cases wx with
    | tup xs =>
      cases st' with
      | none => exact f4.elim
      | some cc =>
        simp only [fStepA] at f4
        cases ok1 : stepOk cc with
        | false => simp only [ok1] at f4; exact f4.elim
        | true =>
        cases ok2 : lenOk (pickT xs lo' hi' cc) with
        | false => simp only [ok1, ok2] at f4; exact f4.elim
        | true =>
          simp only [ok1, ok2] at f4
          simp only [RelW] at r
          obtain ⟨a, vs, rfl, k2, k3⟩ := r
          have rp : RelWs g ρ4 h4.n H4 (pickT xs lo' hi' cc) (pickT vs lo' hi' cc) := by
            unfold pickT
            rw [k3.len]
            exact rel_pick k3 _
          have nc : cc ≠ 0 ∧ cc ≠ 1 := by
            unfold stepOk at ok1
            split at ok1
            · rename_i z1 z2; exact ⟨of_decide_eq_false z1, of_decide_eq_false z2⟩
            · cases ok1
          exact .inr ⟨a, vs, cc, rfl, rfl, SqT.of k2, nc.1, nc.2, lenOk_ok ok2 rp, fun p hp => f4.tup S4 rp hp⟩
    | _ => exact .inl (lists rfl)
end
end M

set_option Elab.async false
set_option linter.all false
set_option maxRecDepth 100000
set_option maxHeartbeats 4000000
namespace M
open PySem PySem.Spec PyProof.Rows L2
/-! ### a, b = a tuple or a list -/
section
variable {g : Gd} {X : Cx} {Wx : WX} {e a b c : Expr} {pos : Pos} {tg : Expr}
def gAny (K : PySem.W.Frag) (n : Nat) (t : TGs) : TG := fun v σ H Q => gTup K n t v σ H Q ∨ gUnl K n t v σ H Q
theorem pg_any {es : List Expr} {k : Nat} {t : TGs} {n : Nat} (hc : X.calm = true) (h : PGs X es t) (hn : (assignEach es X.env).length = n := by rfl) (hst : (assignEach es X.env).findIdx? (·.1) = none := by rfl) : PG X (.Tuple es k pos) (gAny X.K n t) :=
  ⟨fun pins s σ H v u Q I r hw => hw.elim (fun z => (pg_tup hc h hn hst).run pins s σ H v u Q I r z) fun z => (pg_unl hc h hn hst).run pins s σ H v u Q I r z⟩
def dAsgA (m : Dn W) (n : Nat) (f : List W → WS → Option WS) : DS := dOneS (fun w ws h => match items w h with
  | some xs => (match Nat.beq xs.length n with
    | true => (match f xs ws with | some ws' => .nx ws' h | none => .stuck)
    | false => .stuck)
  | none => .stuck) m
theorem ms_asgA (hK : X.K = g.K) {us : List Nat} {es : List Expr} {k n : Nat} {t : TGs} {f : List W → WS → Option WS} {m : Dn W} {tp : Pos} (hc : X.calm = true) (he : PE X e (tE g Wx m)) (hg : PGs X es t) (G : GSs g us t f)
    (hn : (assignEach es X.env).length = n := by rfl) (hst : (assignEach es X.env).findIdx? (·.1) = none := by rfl) (hs : swapsWithSole [.Tuple es k tp] e pos.line X.env = pure false := by rfl) (hw : swappedStores [.Tuple es k tp] e X.env = pure none := by rfl)
    (h1 : (assignEach [.Tuple es k tp] X.env).map (·.2) = [assign (.Tuple es k tp) X.env] := by rfl) : PS X (.Assign [.Tuple es k tp] e pos) (tS g Wx (dAsgA m n f)) :=
  weakS (ps_asg he (pg_any hc hg hn hst) hs hw h1) fun D σ H q => oneS_reads (R := RelW g) q fun ρ h H x vx ws S r sl fin => by
    cases e1 : items x h with
    | none => simp only [e1] at fin; exact fin.elim
    | some xs =>
      simp only [e1] at fin
      cases e2 : Nat.beq xs.length n with
      | false => simp only [e2] at fin; exact fin.elim
      | true =>
        simp only [e2] at fin
        cases e3 : f xs ws with
        | none => simp only [e3] at fin; exact fin.elim
        | some ws' =>
          simp only [e3] at fin
          obtain ⟨ad, vs, rfl, hq, rr⟩ := items_ok S r e1
          have hl : vs.length = n := by rw [rr.len]; exact Nat.eq_of_beq_eq_true e2
          have go := G.go ρ h H xs vs ws σ _ S rr sl ws' e3 fun σ' sl' _ => fin.nx0 S sl'
          rcases hq with hq | hq
          · exact .inr ⟨ad, vs, rfl, by rw [hK]; exact hq, hl, go⟩
          · exact .inl ⟨ad, vs, rfl, by rw [hK]; exact hq, hl, go⟩
end
end M

set_option Elab.async false
set_option linter.all false
set_option maxRecDepth 100000
set_option maxHeartbeats 4000000
namespace M
open PySem PySem.Spec PyProof.Rows L2
/-! ### x in a list or a tuple of data -/
section
variable {g : Gd} {X : Cx} {Wx : WX} {e a b c : Expr} {pos : Pos} {tg : Expr}
def rInDA (K : PySem.W.Frag) (neg : Bool) : R2 := fun x y H Q => ∃ a xs d ds, y = .ref a ∧ (SqL K H a xs ∨ SqT K H a xs) ∧ Dp K H x d ∧ DpAll K H xs ds ∧ PyData.plainAll ds = true ∧ d.plain = true ∧ PyData.depthAll ds ≤ 60 ∧
  Q (.bl (if neg then !ds.any (fun z => PyData.eqv z d) else ds.any (fun z => PyData.eqv z d))) H
theorem op_inDA {k : Nat} (hr : Room k X.A) : OpR X (compareOp .In) (rInDA X.K false) := by
  rintro pins s σ H x _ v u Q I rx ry ⟨p, xs, d, ds, rfl, hs, hd, ha, h1, h2, h3, q⟩
  cases ry
  have room : X.A.units + 1 + min (PyData.depthAll ds) d.depth < cLine := by
    have := hr.units
    have := Nat.min_le_left (PyData.depthAll ds) d.depth
    omega
  obtain ⟨as, r1⟩ := Dp.reads I d x v hd rx
  rcases hs with hs | hs
  · obtain ⟨bs, r2⟩ := Dp.reads I (.list ds) (.ref p) (.ref p) (.lst hs ha) rfl
    exact SeqAt.in_list_data r2 r1 h1 h2 room ⟨.bl _, H, I, rfl, q⟩
  · obtain ⟨bs, r2⟩ := Dp.reads I (.tuple ds) (.ref p) (.ref p) (.tup hs ha) rfl
    exact SeqAt.in_tuple_data r2 r1 h1 h2 room ⟨.bl _, H, I, rfl, q⟩
theorem op_ninDA {k : Nat} (hr : Room k X.A) : OpR X (compareOp .NotIn) (rInDA X.K true) := by
  rintro pins s σ H x _ v u Q I rx ry ⟨p, xs, d, ds, rfl, hs, hd, ha, h1, h2, h3, q⟩
  cases ry
  have room : X.A.units + 1 + min (PyData.depthAll ds) d.depth < cLine := by
    have := hr.units
    have := Nat.min_le_left (PyData.depthAll ds) d.depth
    omega
  obtain ⟨as, r1⟩ := Dp.reads I d x v hd rx
  rcases hs with hs | hs
  · obtain ⟨bs, r2⟩ := Dp.reads I (.list ds) (.ref p) (.ref p) (.lst hs ha) rfl
    exact SeqAt.notIn_list_data r2 r1 h1 h2 room ⟨.bl _, H, I, rfl, q⟩
  · obtain ⟨bs, r2⟩ := Dp.reads I (.tuple ds) (.ref p) (.ref p) (.tup hs ha) rfl
    exact SeqAt.notIn_tuple_data r2 r1 h1 h2 room ⟨.bl _, H, I, rfl, q⟩
def fInDt (neg : Bool) (x y : W) (h : MH) : Res W := match toD 60 h x, items y h with
  | some d, some ys => (match mapD (toD 60 h) ys with
    | some ds => (match PyData.plainAll ds, d.plain with
      | true, true => .ok (.bl (if neg then !ds.any (fun z => PyData.eqv z d) else ds.any (fun z => PyData.eqv z d))) h
      | _, _ => .stuck)
    | none => .stuck)
  | _, _ => .stuck
theorem oInDt {neg : Bool} : OpS g (rInDA g.K neg) (fInDt neg) := by
  intro ρ h H x y vx vy Q E S r1 r2 f
  unfold fInDt at f
  split at f
  · rename_i d ys e1 e2
    split at f
    · rename_i ds e3
      split at f
      · rename_i p1 p2
        obtain ⟨a, us, rfl, hs, rr⟩ := items_ok S r2 e2
        obtain ⟨b1, _, _⟩ := toD_ok S 60 x vx d e1 r1
        obtain ⟨c1, _, c3⟩ := mapD_ok S (fun w v d q rw => toD_ok S 60 w v d q rw) ys us ds e3 rr
        exact ⟨a, us, d, ds, rfl, hs, b1, c1, p1, p2, c3, f.here S (by simp only [RelW])⟩
      · exact f.elim
    · exact f.elim
  · exact f.elim
def orOp (f f' : W → W → MH → Res W) (x y : W) (h : MH) : Res W := match f x y h with
  | .stuck => f' x y h
  | r => r
theorem OpS.or_ {r r' : R2} {f f' : W → W → MH → Res W} (o : OpS g r f) (o' : OpS g r' f') : OpS g (fun x y H Q => r x y H Q ∨ r' x y H Q) (orOp f f') := by
  intro ρ h H x y vx vy Q E S r1 r2 q
  unfold orOp at q
  cases e : f x y h with
  | stuck => rw [e] at q; exact .inr (o' ρ h H x y vx vy Q E S r1 r2 q)
  | ok w h' => rw [e] at q; exact .inl (o ρ h H x y vx vy Q E S r1 r2 (by rw [e]; exact q))
  | exc c fs h' => rw [e] at q; exact .inl (o ρ h H x y vx vy Q E S r1 r2 (by rw [e]; exact q))
theorem cm_inA (hK : X.K = g.K) {k : Nat} (hr : Room k X.A) : Cmp1 g X .In (orOp (fIn false) (fInDt false)) := by
  obtain ⟨r, h1, h2⟩ := cm_in (g := g) (X := X)
  exact ⟨_, h1.or (op_inDA hr), by rw [hK]; exact OpS.or_ (h2 hK) oInDt⟩
theorem cm_notinA (hK : X.K = g.K) {k : Nat} (hr : Room k X.A) : Cmp1 g X .NotIn (orOp (fIn true) (fInDt true)) := by
  obtain ⟨r, h1, h2⟩ := cm_notin (g := g) (X := X)
  exact ⟨_, h1.or (op_ninDA hr), by rw [hK]; exact OpS.or_ (h2 hK) oInDt⟩
end
end M

set_option Elab.async false
set_option linter.all false
set_option maxRecDepth 100000
set_option maxHeartbeats 4000000
namespace M
open PySem PySem.Spec PyProof.Rows L2
open PySem.W (alike dataLt)
section
variable {prog : Program} {w : World} {A : Around} {E : Value → Shared → Prop} {s : Shared}
/-- min(a, b) of two data -/
theorem min_pair {a b : Value} {da db : PyData} {as bs : List Addr} {Q : Value → Shared → Prop} (hh : A.handled = none) (ra : PySem.Reads s.heap a da as) (rb : PySem.Reads s.heap b db bs) (al : PySem.W.AlikeAll [da, db]) (hu : A.units + 1 + PyData.depthAll [da, db] < cLine)
    (h : ∀ h' tk, (∀ c o, s.heap.get? c = some o → h'.get? c = some o) → Q (if dataLt db da = true then b else a) { s with heap := h', toks := tk }) : wpAny (model prog w) A (call (.builtin "min") [a, b]) Q E s := by
  have nm : (toString "min" ++ toString ".loop" : String) = "min.loop" := by decide
  have old : ∀ c o, s.heap.get? c = some o → (s.heap.push { cls := .type "tuple", data := .seq #[a, b] }).get? c = some o := fun c o e => Heap.get?_push_of_some _ e
  have isT : (s.heap.push { cls := .type "tuple", data := .seq #[a, b] }).IsTuple s.heap.objs.size #[a, b] := ⟨_, Heap.get?_push_size _ rfl, rfl, 0, rfl⟩
  have both : PySem.ReadsAll (s.heap.push { cls := .type "tuple", data := .seq #[a, b] }) (#[a, b] : Array Value).toList [da, db] (as ++ (bs ++ [])) := .cons (PySem.W.reads_keeps old ra) (.cons (PySem.W.reads_keeps old rb) .nil)
  refine call_function_tree F.kind_min F.plain_min F.entry_min (F.args_min2 _ _) ?_
  show wpAny _ A.in1 (Builtin.Builtins.bindParams "min" ["key", "default"] 0 ⟨[], []⟩ >>= _) _ _ s
  refine wpAny_bind (wpAny_of_eq (show Builtin.Builtins.bindParams "min" ["key", "default"] 0 ⟨[], []⟩ = pure [none, none] from rfl) ?_)
  show wpAny _ A.in1 (newTuple [a, b] >>= _) _ _ s
  refine wpAny_bind (wpAny_newObj_type ?_)
  refine wpAny_bind (PySem.W.iter_tupleW (A := A.in1) (s := { s with heap := s.heap.push { cls := .type "tuple", data := .seq #[a, b] } }) hh isT fun s₂ e W st hfp hw hk => ?_)
  refine wpAny_bind (wpAny_newObj_type ?_)
  have hSf : s₂.heap.objs.size ∉ [(s.heap.push { cls := .type "tuple", data := .seq #[a, b] }).objs.size, s.heap.objs.size] := fun hm => Nat.lt_irrefl _ (hfp _ hm)
  rw [nm]
  refine wpAny_pure ⟨plainId_quiet F.plain_min_loop _, PySem.codeAny_min_loop_firstH W _ hw _ (PySem.W.cmpIn_lt (A := A.in1) (s := { s with heap := s.heap.push { cls := .type "tuple", data := .seq #[a, b] } }) both al (by show A.units + 1 + _ < _; exact hu)) s₂.heap.objs.size hSf (PySem.fresh_in hk) _ (show 0 < 2 from Nat.succ_pos 1) (fun b o e => Heap.get?_push_of_some _ (hk b o e)) (W.frame 0 s₂ _ s₂.toks st (Nat.le_refl _) fun b _ o e => Heap.get?_push_of_some _ e) (Heap.get?_push_size _ rfl) fun v s' hP hm => ?_⟩
  have m2 := Moved.drop_new (tk := s₂.toks) hm (Nat.le_refl _)
  obtain ⟨h', tk, rfl, keep⟩ := PySem.W.moved_old (s := { s with heap := s.heap.push { cls := .type "tuple", data := .seq #[a, b] } }) e rfl m2
  have fin := h h' tk fun c o e => keep c o (old c o e)
  have ev : v = if dataLt db da = true then b else a := by
    cases hc : dataLt db da <;> simp [argBest, hc] at hP <;> simp [hP]
  rw [ev]
  exact fin
/-- max(a, b) of two data -/
theorem max_pair {a b : Value} {da db : PyData} {as bs : List Addr} {Q : Value → Shared → Prop} (hh : A.handled = none) (ra : PySem.Reads s.heap a da as) (rb : PySem.Reads s.heap b db bs) (al : PySem.W.AlikeAll [da, db]) (hu : A.units + 1 + PyData.depthAll [da, db] < cLine)
    (h : ∀ h' tk, (∀ c o, s.heap.get? c = some o → h'.get? c = some o) → Q (if dataLt da db = true then b else a) { s with heap := h', toks := tk }) : wpAny (model prog w) A (call (.builtin "max") [a, b]) Q E s := by
  have nm : (toString "max" ++ toString ".loop" : String) = "max.loop" := by decide
  have old : ∀ c o, s.heap.get? c = some o → (s.heap.push { cls := .type "tuple", data := .seq #[a, b] }).get? c = some o := fun c o e => Heap.get?_push_of_some _ e
  have isT : (s.heap.push { cls := .type "tuple", data := .seq #[a, b] }).IsTuple s.heap.objs.size #[a, b] := ⟨_, Heap.get?_push_size _ rfl, rfl, 0, rfl⟩
  have both : PySem.ReadsAll (s.heap.push { cls := .type "tuple", data := .seq #[a, b] }) (#[a, b] : Array Value).toList [da, db] (as ++ (bs ++ [])) := .cons (PySem.W.reads_keeps old ra) (.cons (PySem.W.reads_keeps old rb) .nil)
  refine call_function_tree F.kind_max F.plain_max F.entry_max (F.args_max2 _ _) ?_
  show wpAny _ A.in1 (Builtin.Builtins.bindParams "max" ["key", "default"] 0 ⟨[], []⟩ >>= _) _ _ s
  refine wpAny_bind (wpAny_of_eq (show Builtin.Builtins.bindParams "max" ["key", "default"] 0 ⟨[], []⟩ = pure [none, none] from rfl) ?_)
  show wpAny _ A.in1 (newTuple [a, b] >>= _) _ _ s
  refine wpAny_bind (wpAny_newObj_type ?_)
  refine wpAny_bind (PySem.W.iter_tupleW (A := A.in1) (s := { s with heap := s.heap.push { cls := .type "tuple", data := .seq #[a, b] } }) hh isT fun s₂ e W st hfp hw hk => ?_)
  refine wpAny_bind (wpAny_newObj_type ?_)
  have hSf : s₂.heap.objs.size ∉ [(s.heap.push { cls := .type "tuple", data := .seq #[a, b] }).objs.size, s.heap.objs.size] := fun hm => Nat.lt_irrefl _ (hfp _ hm)
  rw [nm]
  refine wpAny_pure ⟨plainId_quiet F.plain_max_loop _, PySem.codeAny_max_loop_firstH W _ hw _ (PySem.W.cmpIn_gt (A := A.in1) (s := { s with heap := s.heap.push { cls := .type "tuple", data := .seq #[a, b] } }) both al (by show A.units + 1 + _ < _; exact hu)) s₂.heap.objs.size hSf (PySem.fresh_in hk) _ (show 0 < 2 from Nat.succ_pos 1) (fun b o e => Heap.get?_push_of_some _ (hk b o e)) (W.frame 0 s₂ _ s₂.toks st (Nat.le_refl _) fun b _ o e => Heap.get?_push_of_some _ e) (Heap.get?_push_size _ rfl) fun v s' hP hm => ?_⟩
  have m2 := Moved.drop_new (tk := s₂.toks) hm (Nat.le_refl _)
  obtain ⟨h', tk, rfl, keep⟩ := PySem.W.moved_old (s := { s with heap := s.heap.push { cls := .type "tuple", data := .seq #[a, b] } }) e rfl m2
  have fin := h h' tk fun c o e => keep c o (old c o e)
  have ev : v = if dataLt da db = true then b else a := by
    cases hc : dataLt da db <;> simp [argBest, hc] at hP <;> simp [hP]
  rw [ev]
  exact fin
end
section
variable {g : Gd} {X : Cx} {Wx : WX} {e a b c : Expr} {pos : Pos} {tg : Expr}
/-- min | max of two data -/
def r2D (K : PySem.W.Frag) (lt : PyData → PyData → Bool) : List V → Hp → VK → Prop := fun xs H Q => ∃ x y dx dy, xs = [x, y] ∧ Dp K H x dx ∧ Dp K H y dy ∧ PySem.W.AlikeAll [dx, dy] ∧ PyData.depthAll [dx, dy] ≤ 60 ∧ Q (if lt dx dy = true then y else x) H
theorem cr_min2D {k : Nat} (hc : X.calm = true) (hr : Room k X.A) : CallR X (.builtin "min") (r2D X.K fun dx dy => dataLt dy dx) := by
  rintro pins s σ H _ us Q I r ⟨x, y, dx, dy, rfl, hx, hy, al, dep, q⟩
  obtain ⟨u, v, rfl, ru, rv⟩ := vals2 r
  obtain ⟨as, ra⟩ := Dp.reads I dx x u hx ru
  obtain ⟨bs, rb⟩ := Dp.reads I dy y v hy rv
  refine min_pair (I.ok.hd hc) ra rb al (by have := hr.units; omega) fun h' tk keep => ⟨_, H, I.kept (t' := tk) keep, ?_, q⟩
  by_cases z : dataLt dy dx = true
  · rw [if_pos z, if_pos z]; exact rv
  · rw [if_neg z, if_neg z]; exact ru
theorem cr_max2D {k : Nat} (hc : X.calm = true) (hr : Room k X.A) : CallR X (.builtin "max") (r2D X.K fun dx dy => dataLt dx dy) := by
  rintro pins s σ H _ us Q I r ⟨x, y, dx, dy, rfl, hx, hy, al, dep, q⟩
  obtain ⟨u, v, rfl, ru, rv⟩ := vals2 r
  obtain ⟨as, ra⟩ := Dp.reads I dx x u hx ru
  obtain ⟨bs, rb⟩ := Dp.reads I dy y v hy rv
  refine max_pair (I.ok.hd hc) ra rb al (by have := hr.units; omega) fun h' tk keep => ⟨_, H, I.kept (t' := tk) keep, ?_, q⟩
  by_cases z : dataLt dx dy = true
  · rw [if_pos z, if_pos z]; exact rv
  · rw [if_neg z, if_neg z]; exact ru
def f2D (lt : PyData → PyData → Bool) (xs : List W) (h : MH) : Res W := match xs with
  | [x, y] => (match toD 60 h x, toD 60 h y with
    | some dx, some dy => (match [dx, dy].all nestI && allAlike [dx, dy] with
      | true => .ok (match lt dx dy with | true => y | false => x) h
      | false => .stuck)
    | _, _ => .stuck)
  | _ => .stuck
theorem o2D {lt lt' : PyData → PyData → Bool} (e : ∀ dx dy, nestI dx = true → nestI dy = true → alike dx dy = true → alike dy dx = true → lt' dx dy = lt dx dy) : CallS g (r2D g.K lt') (f2D lt) := by
  intro ρ h H xs vs Q E S r f
  unfold f2D at f
  split at f
  · rename_i x y
    obtain ⟨v, u, rfl, r1, r2⟩ := two_of r
    split at f
    · rename_i dx dy e1 e2
      split at f
      · rename_i ok
        obtain ⟨o1, o2⟩ := Bool.and_eq_true_iff.mp ok
        obtain ⟨a1, _, a3⟩ := toD_ok S 60 x v dx e1 r1
        obtain ⟨b1, _, b3⟩ := toD_ok S 60 y u dy e2 r2
        have al : ∀ p ∈ [dx, dy], ∀ q ∈ [dx, dy], alike p q = true := fun p hp q hq => List.all_eq_true.mp (List.all_eq_true.mp o2 p hp) q hq
        have ne : ∀ p ∈ [dx, dy], nestI p = true := fun p hp => List.all_eq_true.mp o1 p hp
        refine ⟨v, u, dx, dy, rfl, a1, b1, ⟨al, fun p hp z => by have := ne p hp; rw [z] at this; simp [nestI] at this⟩, by simp only [PyData.depthAll]; omega, ?_⟩
        have e' := e dx dy (ne dx (by simp)) (ne dy (by simp)) (al dx (by simp) dy (by simp)) (al dy (by simp) dx (by simp))
        cases z : lt dx dy with
        | true => rw [e', z, if_pos rfl]; rw [z] at f; exact f.here S r2
        | false => rw [e', z, if_neg Bool.false_ne_true]; rw [z] at f; exact f.here S r1
      · exact f.elim
    · exact f.elim
  · exact f.elim
def fMin2A := orElse_ fMin2 (f2D fun dx dy => ltD dy dx)
def fMax2A := orElse_ fMax2 (f2D fun dx dy => ltD dx dy)
theorem x_min2A (hK : X.K = g.K) {k : Nat} (hc : X.calm = true) (hr : Room k X.A) {p : Pos} {es : List Expr} {ra : Dn (List W)} (hg : Gl X "min") (hm : X.mg "min" = none) (ha : PA X (e :: es) (tA g Wx ra)) (he : starEach (e :: es) X.env = (false, eval e X.env) :: starEach es X.env := by rfl) (hpl : (backTo pos (starEach es X.env)).any (·.1) = false := by rfl) :
    PE X (.Call (.Name "min" p) (e :: es) [] pos) (tE g Wx (dOne fMin2A ra)) :=
  m_callB ((call_min2 hc).or (cr_min2D hc hr)) (by rw [hK]; exact CallS.or_ oMin2 (o2D fun dx dy h1 h2 h3 h4 => lt_eq dy dx h2 h4)) hg hm (by decide +kernel) ha (by decide) (by decide) he hpl
theorem x_max2A (hK : X.K = g.K) {k : Nat} (hc : X.calm = true) (hr : Room k X.A) {p : Pos} {es : List Expr} {ra : Dn (List W)} (hg : Gl X "max") (hm : X.mg "max" = none) (ha : PA X (e :: es) (tA g Wx ra)) (he : starEach (e :: es) X.env = (false, eval e X.env) :: starEach es X.env := by rfl) (hpl : (backTo pos (starEach es X.env)).any (·.1) = false := by rfl) :
    PE X (.Call (.Name "max" p) (e :: es) [] pos) (tE g Wx (dOne fMax2A ra)) :=
  m_callB ((call_max2 hc).or (cr_max2D hc hr)) (by rw [hK]; exact CallS.or_ oMax2 (o2D fun dx dy h1 h2 h3 h4 => lt_eq dx dy h1 h3)) hg hm (by decide +kernel) ha (by decide) (by decide) he hpl
end
end M

set_option Elab.async false
set_option linter.all false
set_option maxRecDepth 100000
set_option maxHeartbeats 4000000
namespace M
open PySem PySem.Spec PyProof.Rows L2

/-! # Dicts of the small heap -/
section
variable {κ : Type} [DecidableEq κ]
/-- what stands at the key k -/
def dfind (key : W → Option κ) (k : κ) : List (W × W) → Option W
  | [] => none
  | p :: r => match key p.1 with
    | some k' => (match decide (k' = k) with | true => some p.2 | false => dfind key k r)
    | none => none
/-- the value at k put anew -/
def dputs (key : W → Option κ) (k : κ) (w : W) : List (W × W) → List (W × W)
  | [] => []
  | p :: r => match key p.1 with
    | some k' => (match decide (k' = k) with | true => (p.1, w) :: dputs key k w r | false => p :: dputs key k w r)
    | none => p :: dputs key k w r
variable {key : W → Option κ} {g : Gd} {ρ : Nat → Addr} {n : Nat} {H : Hp}
theorem dfind_some {k : κ} {w : W} : ∀ {xs : List (W × W)} {vs : List (κ × V)}, RelKV key g ρ n H xs vs → dfind key k xs = some w → ∃ v, valV vs k = some v ∧ RelW g ρ n H w v
  | [], _, _, e => by unfold dfind at e; cases e
  | p :: xs, _, r, e => by
    obtain ⟨k', v, us, rfl, e2, e3, e4⟩ := r
    unfold dfind at e
    rw [e2] at e
    dsimp only at e
    by_cases q : k' = k
    · rw [decide_eq_true q] at e
      injection e with e
      subst e
      exact ⟨v, valV_pos q, e3⟩
    · rw [decide_eq_false q] at e
      obtain ⟨u, h1, h2⟩ := dfind_some e4 e
      exact ⟨u, by rw [valV_neg q]; exact h1, h2⟩
theorem dfind_none {k : κ} : ∀ {xs : List (W × W)} {vs : List (κ × V)}, RelKV key g ρ n H xs vs → dfind key k xs = none → valV vs k = none
  | [], _, r, _ => by rw [show _ = _ from r]; rfl
  | p :: xs, _, r, e => by
    obtain ⟨k', v, us, rfl, e2, e3, e4⟩ := r
    unfold dfind at e
    rw [e2] at e
    dsimp only at e
    by_cases q : k' = k
    · rw [decide_eq_true q] at e; cases e
    · rw [decide_eq_false q] at e
      rw [valV_neg q]
      exact dfind_none e4 e
theorem RelKV.len : ∀ {xs : List (W × W)} {vs : List (κ × V)}, RelKV key g ρ n H xs vs → vs.length = xs.length
  | [], _, r => by rw [show _ = _ from r]; rfl
  | p :: xs, _, r => by
    obtain ⟨k', v, us, rfl, e2, e3, e4⟩ := r
    simp [RelKV.len e4]
theorem RelKV.snoc {y z : W} {k : κ} {v : V} (hk : key y = some k) (hz : RelW g ρ n H z v) : ∀ {xs : List (W × W)} {vs : List (κ × V)}, RelKV key g ρ n H xs vs → RelKV key g ρ n H (xs ++ [(y, z)]) (vs ++ [(k, v)])
  | [], _, r => by rw [show _ = _ from r]; exact ⟨k, v, [], rfl, hk, hz, rfl⟩
  | p :: xs, _, r => by
    obtain ⟨k', u, us, rfl, e2, e3, e4⟩ := r
    exact ⟨k', u, _, rfl, e2, e3, RelKV.snoc hk hz e4⟩
theorem RelKV.put {z : W} {k : κ} {v : V} (hz : RelW g ρ n H z v) : ∀ {xs : List (W × W)} {vs : List (κ × V)}, RelKV key g ρ n H xs vs → RelKV key g ρ n H (dputs key k z xs) (vs.map fun kv => if kv.1 = k then (kv.1, v) else kv)
  | [], _, r => by rw [show _ = _ from r]; rfl
  | p :: xs, _, r => by
    obtain ⟨k', u, us, rfl, e2, e3, e4⟩ := r
    have ih := RelKV.put (k := k) hz e4
    unfold dputs
    rw [e2]
    dsimp only
    by_cases q : k' = k
    · rw [decide_eq_true q, List.map_cons]
      exact ⟨k', v, _, by rw [if_pos q], e2, hz, ih⟩
    · rw [decide_eq_false q, List.map_cons]
      exact ⟨k', u, _, by rw [if_neg q], e2, e3, ih⟩
/-- d[k] = z: in its place, or at the end -/
def dstore (key : W → Option κ) (k : κ) (y z : W) (xs : List (W × W)) : List (W × W) := match dfind key k xs with
  | some _ => dputs key k z xs
  | none => xs ++ [(y, z)]
theorem RelKV.store {y z : W} {k : κ} {v : V} (hk : key y = some k) (hz : RelW g ρ n H z v) {xs : List (W × W)} {vs : List (κ × V)} (r : RelKV key g ρ n H xs vs) : RelKV key g ρ n H (dstore key k y z xs) (putK vs k v) := by
  unfold dstore putK
  rw [valV_any]
  cases e : dfind key k xs with
  | some w =>
    obtain ⟨u, h1, _⟩ := dfind_some r e
    rw [h1]
    exact r.put hz
  | none =>
    rw [dfind_none r e]
    exact r.snoc hk hz
end
theorem kW_ok {g : Gd} {ρ : Nat → Addr} {n : Nat} {H : Hp} {w : W} {v : V} {k : Key} (r : RelW g ρ n H w v) (e : kW w = some k) : v = kV k := by
  unfold kW at e
  split at e
  · injection e with e; subst e; simp only [RelW] at r; exact r
  · injection e with e; subst e; simp only [RelW] at r; exact r
  · cases e
theorem kWs_ok {g : Gd} {ρ : Nat → Addr} {n : Nat} {H : Hp} : ∀ {xs : List W} {vs : List V} {ks : List Key}, RelWs g ρ n H xs vs → kWs xs = some ks → vs = ks.map kV
  | [], _, ks, r, e => by
    unfold kWs at e
    injection e with e
    rw [r.inv_nil, ← e]; rfl
  | x :: xs, _, ks, r, e => by
    obtain ⟨v, u, rfl, r1, r2⟩ := r.inv_cons
    unfold kWs at e
    split at e
    · rename_i k ks' e1 e2
      injection e with e
      rw [← e, kW_ok r1 e1, kWs_ok r2 e2]; rfl
    · cases e
theorem kT_ok {g : Gd} {ρ : Nat → Addr} {n : Nat} {H : Hp} {w : W} {v : V} {k : List Key} (r : RelW g ρ n H w v) (e : kT w = some k) : ∃ b, v = .ref b ∧ H b = some (.tup (k.map kV)) := by
  unfold kT at e
  split at e
  · simp only [RelW] at r
    obtain ⟨a, vs, rfl, h1, h2⟩ := r
    exact ⟨a, rfl, by rw [h1, kWs_ok h2 e]⟩
  · cases e

/-- what d holds at y; none: not known -/
def dlook (x y : W) (h : MH) : Option (Option W) := match x with
  | .ref i => (match h.get i with
    | some (.dic false kvs) => (match kW y with | some k => some (dfind kW k kvs) | none => none)
    | some (.dic true kvs) => (match kT y with | some k => some (dfind kT k kvs) | none => none)
    | some (.ldc false kvs) => (match kW y with | some k => some (dfind kW k kvs) | none => none)
    | some (.ldc true kvs) => (match kT y with | some k => some (dfind kT k kvs) | none => none)
    | _ => none)
  | _ => none
theorem dlook_ok {g : Gd} {ρ : Nat → Addr} {h : MH} {H : Hp} {x y : W} {vx vy : V} {r : Option W} (S : Sim g ρ h H) (rx : RelW g ρ h.n H x vx) (ry : RelW g ρ h.n H y vy) (e : dlook x y h = some r) :
    ∃ a o, vx = .ref a ∧ DGet H a vy o ∧ (∀ w, r = some w → ∃ v, o = some v ∧ RelW g ρ h.n H w v) ∧ (r = none → o = none) := by
  unfold dlook at e
  split at e
  · rename_i i
    simp only [RelW] at rx
    obtain ⟨hi, rfl⟩ := rx
    split at e
    · rename_i kvs eg
      obtain ⟨_, vs, e1, rk⟩ := S.at_ _ _ eg
      split at e
      · rename_i k ek
        injection e with e
        have := kW_ok ry ek
        subst this
        exact ⟨_, _, rfl, DGet.k e1, fun w q => dfind_some rk (e.trans q), fun q => dfind_none rk (e.trans q)⟩
      · cases e
    · rename_i kvs eg
      obtain ⟨_, vs, e1, rk⟩ := S.at_ _ _ eg
      split at e
      · rename_i k ek
        injection e with e
        obtain ⟨b, rfl, hb⟩ := kT_ok ry ek
        exact ⟨_, _, rfl, DGet.t e1 hb, fun w q => dfind_some rk (e.trans q), fun q => dfind_none rk (e.trans q)⟩
      · cases e
    · rename_i kvs eg
      obtain ⟨_, o, vs, e1, rk⟩ := S.at_ _ _ eg
      split at e
      · rename_i k ek
        injection e with e
        have := kW_ok ry ek
        subst this
        exact ⟨_, _, rfl, .inl ⟨vs, k, .inr ⟨o, e1⟩, rfl, rfl⟩, fun w q => dfind_some rk (e.trans q), fun q => dfind_none rk (e.trans q)⟩
      · cases e
    · rename_i kvs eg
      obtain ⟨_, o, vs, e1, rk⟩ := S.at_ _ _ eg
      split at e
      · rename_i k ek
        injection e with e
        obtain ⟨b, rfl, hb⟩ := kT_ok ry ek
        exact ⟨_, _, rfl, .inr ⟨vs, k, b, .inr ⟨o, e1⟩, rfl, hb, rfl⟩, fun w q => dfind_some rk (e.trans q), fun q => dfind_none rk (e.trans q)⟩
      · cases e
    · cases e
  · cases e
/-- d with z at y -/
def dwrite (x y z : W) (h : MH) : Option MH := match x with
  | .ref i => (match h.get i with
    | some (.dic false kvs) => (match kW y, Nat.blt kvs.length 16777216 with | some k, true => some (h.set i (.dic false (dstore kW k y z kvs))) | _, _ => none)
    | some (.dic true kvs) => (match kT y, Nat.blt kvs.length 16777216 with | some k, true => some (h.set i (.dic true (dstore kT k y z kvs))) | _, _ => none)
    | _ => none)
  | _ => none
theorem dwrite_ok {g : Gd} {ρ : Nat → Addr} {h h' : MH} {H : Hp} {x y z : W} {vx vy vz : V} (S : Sim g ρ h H) (rx : RelW g ρ h.n H x vx) (ry : RelW g ρ h.n H y vy) (rz : RelW g ρ h.n H z vz) (e : dwrite x y z h = some h') :
    ∃ a H', vx = .ref a ∧ DPut H a vy vz H' ∧ h'.n = h.n ∧ Ext ρ h.n H ρ h.n H' ∧ Sim g ρ h' H' := by
  unfold dwrite at e
  split at e
  · rename_i i
    simp only [RelW] at rx
    obtain ⟨hi, rfl⟩ := rx
    split at e
    · rename_i kvs eg
      obtain ⟨_, vs, e1, rk⟩ := S.at_ _ _ eg
      split at e
      · rename_i k ek el
        injection e with e
        subst e
        have := kW_ok ry ek
        subst this
        exact ⟨_, _, rfl, DPut.k (v := vz) e1 (by rw [rk.len, sizeLine_eq]; exact blt_ok el), rfl, Ext.setO S hi e1 True.intro, Sim.setO S hi e1 True.intro ⟨_, rfl, rk.store ek rz⟩⟩
      · cases e
    · rename_i kvs eg
      obtain ⟨_, vs, e1, rk⟩ := S.at_ _ _ eg
      split at e
      · rename_i k ek el
        injection e with e
        subst e
        obtain ⟨b, rfl, hb⟩ := kT_ok ry ek
        exact ⟨_, _, rfl, DPut.t (v := vz) e1 hb (by rw [rk.len, sizeLine_eq]; exact blt_ok el), rfl, Ext.setO S hi e1 True.intro, Sim.setO S hi e1 True.intro ⟨_, rfl, rk.store ek rz⟩⟩
      · cases e
    · cases e
  · cases e

section
variable {g : Gd} {X : Cx} {Wx : WX} {e a b c o i : Expr} {pos : Pos} {tg : Expr}
/-! ### {} -/
def dDict (t : Bool) : Dn W := fun _ h => .ok (.ref h.n) (h.push (.dic t []))
theorem m_dnewK : PE X (.Dict [] [] pos) (tE g Wx (dDict false)) := weak pe_dnewK fun σ H Q ⟨ρ, ws, h, S, sl, f⟩ p hp => by
  refine f (exρ ρ h.n p) _ (.ref p) (Ext.push S hp) (S.pushO (ob := .dic false []) hp ⟨[], rfl, rfl⟩) ?_
  simp only [RelW]
  exact ⟨Nat.lt_succ_self _, by unfold exρ; rw [if_pos rfl]⟩
theorem m_dnewT : PE X (.Dict [] [] pos) (tE g Wx (dDict true)) := weak pe_dnewT fun σ H Q ⟨ρ, ws, h, S, sl, f⟩ p hp => by
  refine f (exρ ρ h.n p) _ (.ref p) (Ext.push S hp) (S.pushO (ob := .dic true []) hp ⟨[], rfl, rfl⟩) ?_
  simp only [RelW]
  exact ⟨Nat.lt_succ_self _, by unfold exρ; rw [if_pos rfl]⟩
/-! ### d[k] -/
def fDGet (x y : W) (h : MH) : Res W := match dlook x y h with
  | some (some w) => .ok w h
  | _ => .stuck
theorem dget_reads {mo mi : Dn W} {σ : L2.St} {H : Hp} {Q : VK} (x : tE g Wx (dOp fDGet mo mi) σ H Q) : tDGet (tE g Wx mo) (tE g Wx mi) σ H Q :=
  two_reads (R1 := RelW g) (R2 := RelW g) (fun X q => q.ext X) x fun ρ h H x y vx vy S r1 r2 f => by
    unfold fDGet at f
    split at f
    · rename_i w ew
      obtain ⟨a, o, rfl, g1, g2, _⟩ := dlook_ok S r1 r2 ew
      obtain ⟨v, rfl, rv⟩ := g2 w rfl
      exact ⟨a, v, rfl, g1, f.here S rv⟩
    · exact f.elim
theorem or_split {f f' : W → W → MH → Res W} {ma mb : Dn W} {σ : L2.St} {H : Hp} {Q : VK} (x : tE g Wx (dOp (orOp f f') ma mb) σ H Q) : tE g Wx (dOp f ma mb) σ H Q ∨ tE g Wx (dOp f' ma mb) σ H Q := by
  obtain ⟨ρ, ws, h, S, sl, fin⟩ := x
  have cases3 : dOp (orOp f f') ma mb ws h = dOp f ma mb ws h ∨ dOp (orOp f f') ma mb ws h = dOp f' ma mb ws h := by
    unfold dOp dTwo
    cases ma ws h with
    | exc c fs h1 => exact .inl rfl
    | stuck => exact .inl rfl
    | ok x1 h1 =>
      dsimp only [Res.bnd]
      cases mb ws h1 with
      | exc c fs h2 => exact .inl rfl
      | stuck => exact .inl rfl
      | ok y1 h2 =>
        dsimp only [Res.bnd]
        unfold orOp
        cases f x1 y1 h2 with
        | stuck => exact .inr rfl
        | ok _ _ => exact .inl rfl
        | exc _ _ _ => exact .inl rfl
  rcases cases3 with q | q
  · rw [q] at fin; exact .inl ⟨ρ, ws, h, S, sl, fin⟩
  · rw [q] at fin; exact .inr ⟨ρ, ws, h, S, sl, fin⟩
theorem pe_or {t t' : TE} (x : PE X e t) (y : PE X e t') : PE X e (fun σ H Q => t σ H Q ∨ t' σ H Q) := ⟨fun pins s σ H Q I q => q.elim (x.run pins s σ H Q I) (y.run pins s σ H Q I)⟩
def fIxA := orOp fIx fDGet
theorem m_ixA (hK : X.K = g.K) {k : Nat} (hr : Room k X.A) {ma mb : Dn W} (ha : PE X a (tE g Wx ma)) (hb : PE X b (tE g Wx mb)) (hs : PlainIx b := by exact fun _ _ => rfl) (hn : NoSl b := by exact fun _ _ => rfl) : PE X (.Subscript a b pos) (tE g Wx (dOp fIxA ma mb)) :=
  weak (pe_or (m_ix hK ha hb hs) (pe_dget (by have := hr.units; omega) ha hb hn)) fun σ H Q q => (or_split q).imp id dget_reads
/-! ### k in d -/
def rDIn (neg : Bool) : R2 := fun y x H Q => ∃ a o, x = .ref a ∧ DGet H a y o ∧ Q (.bl (if neg then !o.isSome else o.isSome)) H
theorem op_dIn (hu : X.A.units + 1 < cLine) : OpR X (compareOp .In) (rDIn false) := by
  rintro pins s σ H y x u v Q I ry rx ⟨a, o, rfl, g1, q⟩
  cases rx
  exact d_in hu I g1 ry fun s3 I3 => ⟨.bl o.isSome, H, I3, rfl, q⟩
theorem op_dNotIn (hu : X.A.units + 1 < cLine) : OpR X (compareOp .NotIn) (rDIn true) := by
  rintro pins s σ H y x u v Q I ry rx ⟨a, o, rfl, g1, q⟩
  cases rx
  exact d_notIn hu I g1 ry fun s3 I3 => ⟨.bl (!o.isSome), H, I3, rfl, q⟩
def fDIn (neg : Bool) (y x : W) (h : MH) : Res W := match dlook x y h with
  | some r => .ok (.bl (match neg, r with | true, some _ => false | true, none => true | false, some _ => true | false, none => false)) h
  | none => .stuck
theorem oDIn {neg : Bool} : OpS g (rDIn neg) (fDIn neg) := by
  intro ρ h H y x vy vx Q E S r2 r1 f
  unfold fDIn at f
  split at f
  · rename_i r er
    obtain ⟨a, o, rfl, g1, g2, g3⟩ := dlook_ok S r1 r2 er
    refine ⟨a, o, rfl, g1, ?_⟩
    cases r with
    | some w =>
      obtain ⟨v, rfl, _⟩ := g2 w rfl
      cases neg <;> exact f.here S (by simp only [RelW]; rfl)
    | none =>
      rw [g3 rfl]
      cases neg <;> exact f.here S (by simp only [RelW]; rfl)
  · exact f.elim
def fInB (neg : Bool) := orOp (orOp (fIn neg) (fInDt neg)) (fDIn neg)
theorem cm_inB (hK : X.K = g.K) {k : Nat} (hr : Room k X.A) : Cmp1 g X .In (fInB false) := by
  obtain ⟨r, a, b⟩ := cm_inA (g := g) hK hr
  exact ⟨_, a.or (op_dIn (by have := hr.units; omega)), OpS.or_ b oDIn⟩
theorem cm_notinB (hK : X.K = g.K) {k : Nat} (hr : Room k X.A) : Cmp1 g X .NotIn (fInB true) := by
  obtain ⟨r, a, b⟩ := cm_notinA (g := g) hK hr
  exact ⟨_, a.or (op_dNotIn (by have := hr.units; omega)), OpS.or_ b oDIn⟩
end
end M

set_option Elab.async false
set_option linter.all false
set_option maxRecDepth 100000
set_option maxHeartbeats 4000000
namespace M
open PySem PySem.Spec PyProof.Rows L2

/-! ### d.setdefault(k, z) -/
/-- what was there, and the heap with z there -/
def DSet (H : Hp) (a : Addr) (y z : V) (o : Option V) (H' : Hp) : Prop :=
  (∃ kvs k, H a = some (.dK kvs) ∧ y = kV k ∧ kvs.length < sizeLine ∧ o = valV kvs k ∧ H' = upd H a (.dK (putK kvs k z))) ∨
  ∃ kvs k b, H a = some (.dT kvs) ∧ y = .ref b ∧ H b = some (.tup (k.map kV)) ∧ kvs.length < sizeLine ∧ o = valV kvs k ∧ H' = upd H a (.dT (putK kvs k z))
section
variable {X : Cx} {pins : List (Addr × Obj)} {σ : L2.St} {H : Hp} {s : Shared} {a : Addr} {y z : V} {u r : Value} {A : Around} {E : Value → Shared → Prop}
theorem dset_T {kvs : List (List Key × V)} {k : List Key} {b : Addr} {Q : Value → Shared → Prop} (hu : A.units + 1 < cLine) (I : Inv X pins σ H s) (e : H a = some (.dT kvs)) (hb : H b = some (.tup (k.map kV))) (rz : RelV z r) (hl : kvs.length < sizeLine)
    (h1 : ∀ v, valV kvs k = some v → ∀ (w' : Value) (s' : Shared), Inv X pins σ H s' → RelV v w' → Q w' s') (h2 : valV kvs k = none → ∀ s' : Shared, Inv X pins σ (upd H a (.dT (putK kvs k z))) s' → Q r s') :
    wpAny (model X.prog X.w) A (call (.builtin "dict.setdefault") [.ref a, .ref b, r]) Q E s := by
  obtain ⟨zl, hd, xs, rel, dd⟩ := dt_of I.hok e
  have same := rel.val k
  have hz : xs.length ≤ sizeLine := by
    have e1 := Paired.length rel
    omega
  refine call_setdefault_heap (hsz := hz) (tupleKind_room_in1 hu) (key_of I.hok hb) hd dd (fun p hp => ?_) fun hn h' dd' hs => ?_
  · rw [hp] at same
    cases q : valV kvs k with
    | none => rw [q] at same; exact (show False from same).elim
    | some v0 => rw [q] at same; exact h1 v0 q _ _ (I.tok _) same
  · rw [hn] at same
    cases q : valV kvs k with
    | some v0 => rw [q] at same; exact (show False from same).elim
    | none =>
      have grown : (putK kvs k z).length ≤ sizeLine := by
        have e1 := length_putK kvs k z
        omega
      obtain ⟨ob, es, ep, g1, g2, g3, g4, _, g5⟩ := dd'
      have keptT : ∀ c ys, H c = some (.tup ys) → upd H a (.dT (putK kvs k z)) c = some (.tup ys) := fun c ys ec => by
        rw [upd_ne (ne_of ec e (fun q => nomatch q))]
        exact ec
      exact h2 q _ (d_write (t' := _) I (by rw [e]; exact True.intro) hs ⟨ob, g1⟩ ⟨grown, hd, _, (rel.put k hb rz).keeps keptT, ob, es, ep, g1, g2, g3, g4, g5⟩)
theorem dset_any {o : Option V} {H' : Hp} {Q : Value → Shared → Prop} (hu : A.units + 1 < cLine) (I : Inv X pins σ H s) (g1 : DSet H a y z o H') (ry : RelV y u) (rz : RelV z r)
    (h1 : ∀ v, o = some v → ∀ (w' : Value) (s' : Shared), Inv X pins σ H s' → RelV v w' → Q w' s') (h2 : o = none → ∀ (w' : Value) (s' : Shared), Inv X pins σ H' s' → RelV z w' → Q w' s') :
    wpAny (model X.prog X.w) A (call (.builtin "dict.setdefault") [.ref a, u, r]) Q E s := by
  rcases g1 with ⟨kvs, k, e, rfl, l, rfl, rfl⟩ | ⟨kvs, k, b, e, rfl, hb, l, rfl, rfl⟩
  · exact d_setd I e ry rz l h1 h2
  · cases ry
    exact dset_T hu I e hb rz l h1 fun q s' I' => h2 q _ _ I' rz
end
/-- the rule -/
def tSetdA (td ty tx : TE) : TE := fun σ H Q => td σ H fun x H1 => ∃ a, x = .ref a ∧ IsD H1 a ∧ ty σ H1 fun y H2 => tx σ H2 fun z H3 => ∃ o H4, DSet H3 a y z o H4 ∧ (∀ v, o = some v → Q v H3) ∧ (o = none → Q z H4)
section
variable {g : Gd} {X : Cx} {Wx : WX} {e f a b c o i : Expr} {pos apos : Pos} {tg : Expr} {td ty tx : TE}
theorem pe_setdA (hu : X.A.units + 1 < cLine) (ho : PE X o td) (he : PE X e ty) (hf : PE X f tx) (m : M2 X o "setdefault" apos e f pos) : PE X (.Call (.Attribute o "setdefault" apos) [e, f] [] pos) (tSetdA td ty tx) := by
  constructor
  intro pins s σ H Q I q0
  refine wpAny_Call_method m.base m.few m.line PySem.F.plainAttrs_dict PySem.F.slot_dict_setdefault PySem.F.type_dict_setdefault (thn (ho.run pins s σ H _ I q0) ?_)
  rintro d s1 ⟨_, H1, I1, rd, a, rfl, isd, q1⟩
  cases rd
  obtain ⟨t1, t2, _⟩ := isD_at I1 isd
  refine ⟨t1, t2, ?_⟩
  rw [m.trees]
  refine Calls.callWith_builtin rfl (Calls.evalArgs_plain (Calls.spliced_cons (thn (he.run pins s1 σ H1 _ I1 q1) ?_)))
  rintro iv s2 ⟨y, H2, I2, ry, q2⟩
  refine Calls.spliced_cons (thn (hf.run pins s2 σ H2 _ I2 q2) ?_)
  rintro fv s3 ⟨z, H3, I3, rz, ov, H4, g1, q3, q4⟩
  exact Calls.spliced_nil (dset_any hu I3 g1 ry rz (fun v hv w' s4 I4 rw' => ⟨v, _, I4, rw', q3 v hv⟩) fun hn w' s4 I4 rw' => ⟨z, _, I4, rw', q4 hn⟩)
def isDic (x : W) (h : MH) : Bool := match x with
  | .ref i => (match h.get i with | some (.dic _ _) => true | _ => false)
  | _ => false
theorem isDic_ok {ρ : Nat → Addr} {h : MH} {H : Hp} {x : W} {vx : V} (S : Sim g ρ h H) (rx : RelW g ρ h.n H x vx) (e : isDic x h = true) : ∃ a, vx = .ref a ∧ IsD H a := by
  unfold isDic at e
  split at e
  · simp only [RelW] at rx
    obtain ⟨hi, rfl⟩ := rx
    split at e
    · rename_i t kvs eg
      cases t with
      | false => obtain ⟨_, vs, e1, _⟩ := S.at_ _ _ eg; exact ⟨_, rfl, .inl ⟨vs, .inl e1⟩⟩
      | true => obtain ⟨_, vs, e1, _⟩ := S.at_ _ _ eg; exact ⟨_, rfl, .inr ⟨vs, .inl e1⟩⟩
    · cases e
  · cases e
def fSetd (x y z : W) (h : MH) : Res W := match dlook x y h, dwrite x y z h with
  | some (some w), some _ => .ok w h
  | some none, some h' => .ok z h'
  | _, _ => .stuck
theorem dset_ok {ρ : Nat → Addr} {h h' : MH} {H : Hp} {x y z : W} {vx vy vz : V} {r : Option W} (S : Sim g ρ h H) (rx : RelW g ρ h.n H x vx) (ry : RelW g ρ h.n H y vy) (rz : RelW g ρ h.n H z vz) (el : dlook x y h = some r) (e : dwrite x y z h = some h') :
    ∃ a o H', vx = .ref a ∧ DSet H a vy vz o H' ∧ (∀ w, r = some w → ∃ v, o = some v ∧ RelW g ρ h.n H w v) ∧ (r = none → o = none) ∧ h'.n = h.n ∧ Ext ρ h.n H ρ h.n H' ∧ Sim g ρ h' H' := by
  unfold dwrite at e
  unfold dlook at el
  split at e
  · rename_i i
    simp only [RelW] at rx
    obtain ⟨hi, rfl⟩ := rx
    split at e
    · rename_i kvs eg
      simp only [eg] at el
      obtain ⟨_, vs, e1, rk⟩ := S.at_ _ _ eg
      split at e
      · rename_i k ek len
        simp only [ek] at el
        injection el with el
        injection e with e
        subst e
        have := kW_ok ry ek
        subst this
        exact ⟨_, _, _, rfl, .inl ⟨_, _, e1, rfl, by rw [rk.len, sizeLine_eq]; exact blt_ok len, rfl, rfl⟩, fun w q => dfind_some rk (el.trans q), fun q => dfind_none rk (el.trans q), rfl, Ext.setO S hi e1 True.intro, Sim.setO S hi e1 True.intro ⟨_, rfl, rk.store ek rz⟩⟩
      · cases e
    · rename_i kvs eg
      simp only [eg] at el
      obtain ⟨_, vs, e1, rk⟩ := S.at_ _ _ eg
      split at e
      · rename_i k ek len
        simp only [ek] at el
        injection el with el
        injection e with e
        subst e
        obtain ⟨b, rfl, hb⟩ := kT_ok ry ek
        exact ⟨_, _, _, rfl, .inr ⟨_, _, _, e1, rfl, hb, by rw [rk.len, sizeLine_eq]; exact blt_ok len, rfl, rfl⟩, fun w q => dfind_some rk (el.trans q), fun q => dfind_none rk (el.trans q), rfl, Ext.setO S hi e1 True.intro, Sim.setO S hi e1 True.intro ⟨_, rfl, rk.store ek rz⟩⟩
      · cases e
    · cases e
  · cases e
def dSetd (mo my mz : Dn W) : Dn W := fun ws h => (mo ws h).bnd fun x h1 => match isDic x h1 with
  | true => (my ws h1).bnd fun y h2 => (mz ws h2).bnd fun z h3 => fSetd x y z h3
  | false => .stuck
theorem setd_reads {mo my mz : Dn W} {σ : L2.St} {H : Hp} {Q : VK} (x : tE g Wx (dSetd mo my mz) σ H Q) : tSetdA (tE g Wx mo) (tE g Wx my) (tE g Wx mz) σ H Q := by
  obtain ⟨ρ, ws, h, S, sl, fin⟩ := x
  refine ⟨ρ, ws, h, S, sl, (Fin.bnd (R := RelW g) fin).mono fun vx H1 ⟨ρ1, h1, wx, X1, S1, r1, f1⟩ => ?_⟩
  cases ed : isDic wx h1 with
  | false => rw [ed] at f1; exact f1.elim
  | true =>
    rw [ed] at f1
    obtain ⟨a, rfl, isd⟩ := isDic_ok S1 r1 ed
    refine ⟨a, rfl, isd, ρ1, ws, h1, S1, sl.ext X1, (Fin.bnd (R := RelW g) f1).mono fun vy H2 ⟨ρ2, h2, wy, X2, S2, r2, f2⟩ => ?_⟩
    refine ⟨ρ2, ws, h2, S2, (sl.ext X1).ext X2, (Fin.bnd (R := RelW g) f2).mono fun vz H3 ⟨ρ3, h3, wz, X3, S3, r3, f3⟩ => ?_⟩
    unfold fSetd at f3
    split at f3
    · rename_i w h' e1 e2
      obtain ⟨a', ov, H4, ea, d1, d2, d3, n4, X4, S4⟩ := dset_ok S3 ((r1.ext X2).ext X3) (r2.ext X3) r3 e1 e2
      cases ea
      obtain ⟨v, rfl, rv⟩ := d2 w rfl
      refine ⟨_, H4, d1, fun v' ev => ?_, fun q => by cases q⟩
      injection ev with ev
      subst ev
      exact f3.here S3 rv
    · rename_i h' e1 e2
      obtain ⟨a', ov, H4, ea, d1, d2, d3, n4, X4, S4⟩ := dset_ok S3 ((r1.ext X2).ext X3) (r2.ext X3) r3 e1 e2
      cases ea
      refine ⟨_, H4, d1, ⟨fun v' ev => (by rw [d3 rfl] at ev; cases ev), fun _ => ?_⟩⟩
      exact f3 ρ3 H4 vz (by rw [n4]; exact X4) S4 (by rw [n4]; exact r3.ext X4)
    · exact f3.elim
theorem m_setd {k : Nat} (hr : Room k X.A) {mo my mz : Dn W} (ho : PE X o (tE g Wx mo)) (he : PE X e (tE g Wx my)) (hf : PE X f (tE g Wx mz)) (m : M2 X o "setdefault" apos e f pos := by exact ⟨rfl, rfl, rfl, rfl⟩) :
    PE X (.Call (.Attribute o "setdefault" apos) [e, f] [] pos) (tE g Wx (dSetd mo my mz)) :=
  weak (pe_setdA (by have := hr.units; omega) ho he hf m) fun σ H Q q => setd_reads q

/-! ### d[k] = v -/
def dDPut (mv mo mi : Dn W) : DS := fun ws h => (mv ws h).bndS ws fun v h1 => (mo ws h1).bndS ws fun x h2 => (mi ws h2).bndS ws fun y h3 => match dwrite x y v h3 with
  | some h4 => .nx ws h4
  | none => .stuck
theorem dput_reads {D : Ends} {mv mo mi : Dn W} {σ : L2.St} {H : Hp} (x : tS g Wx (dDPut mv mo mi) D σ H) : sDPut (tE g Wx mo) (tE g Wx mi) (tE g Wx mv) D σ H := by
  obtain ⟨ρ, ws, h, S, sl, fin⟩ := x
  refine ⟨ρ, ws, h, S, sl, (bndS_reads (R := RelW g) sl fin).mono fun v H1 ⟨ρ1, h1, w, X1, S1, r1, f1⟩ => ?_⟩
  have sl1 := sl.ext X1
  refine ⟨ρ1, ws, h1, S1, sl1, (bndS_reads (R := RelW g) sl1 f1).mono fun o H2 ⟨ρ2, h2, wo, X2, S2, r2, f2⟩ => ?_⟩
  have sl2 := sl1.ext X2
  refine ⟨ρ2, ws, h2, S2, sl2, (bndS_reads (R := RelW g) sl2 f2).mono fun i H3 ⟨ρ3, h3, wi, X3, S3, r3, f3⟩ => ?_⟩
  have sl3 := sl2.ext X3
  split at f3
  · rename_i h4 e
    obtain ⟨a, H4, rfl, d1, n4, X4, S4⟩ := dwrite_ok S3 (r2.ext X3) r3 ((r1.ext X2).ext X3) e
    exact ⟨a, H4, rfl, d1, f3 ρ3 H4 σ (by rw [n4]; exact X4) S4 (by rw [n4]; exact sl3.ext X4)⟩
  · exact f3.elim
theorem ms_dput {value : Expr} {pos' : Pos} {k : Nat} (hr : Room k X.A) {mv mo mi : Dn W} (ho : PE X o (tE g Wx mo)) (hi : PE X i (tE g Wx mi)) (hv : PE X value (tE g Wx mv)) (hs : swapsWith value (some (.Subscript o i pos')) pos.line X.env = pure false := by rfl) :
    PS X (.Assign [.Subscript o i pos'] value pos) (tS g Wx (dDPut mv mo mi)) :=
  weakS (ps_dput (by have := hr.units; omega) ho hi hv hs) fun D σ H q => dput_reads q

/-! ### sorted(d), keys ints -/
def keysI : List (W × W) → Option (List Int)
  | [] => some []
  | p :: r => match p.1, keysI r with
    | .int i, some is => some (i :: is)
    | _, _ => none
theorem keysI_ok {ρ : Nat → Addr} {n : Nat} {H : Hp} : ∀ {kvs : List (W × W)} {vs : List (Key × V)} {is : List Int}, RelKV kW g ρ n H kvs vs → keysI kvs = some is → vs.map (·.1) = is.map Sum.inl
  | [], _, is, r, e => by
    unfold keysI at e
    injection e with e
    rw [show _ = _ from r, ← e]; rfl
  | p :: kvs, _, is, r, e => by
    obtain ⟨k, v, us, rfl, e2, e3, e4⟩ := r
    unfold keysI at e
    split at e
    · rename_i i is' e5 e6
      injection e with e
      subst e
      rw [e5] at e2
      injection e2 with e2
      rw [List.map_cons, List.map_cons, keysI_ok e4 e6, ← e2]
    · cases e
def fSortDK (xs : List W) (h : MH) : Res W := match xs with
  | [.ref i] => (match h.get i with
    | some (.dic false kvs) => (match keysI kvs with
      | some is => (match Nat.blt is.length 64 with
        | true => .ok (.ref h.n) (h.push (.lst ((msort (fun x y : Int => decide (x < y)) is).map W.int)))
        | false => .stuck)
      | none => .stuck)
    | _ => .stuck)
  | _ => .stuck
theorem ints_rel {ρ : Nat → Addr} {n : Nat} {H : Hp} : ∀ is : List Int, RelWs g ρ n H (is.map W.int) (is.map V.int)
  | [] => RelWs.nil
  | i :: is => .cons (by simp only [RelW]) (ints_rel is)
theorem sorted_same {ys is : List Int} (p : ys.Perm is) (w : ys.Pairwise (· ≤ ·)) : ys = msort (fun x y : Int => decide (x < y)) is := by
  obtain ⟨a, b⟩ := msortF_ok (lt := fun x y : Int => decide (x < y)) swoI 20 is
  refine List.Perm.eq_of_pairwise (le := fun x y => x ≤ y) (fun a b _ _ h1 h2 => Int.le_antisymm h1 h2) w (a.imp fun {x y} h => ?_) (p.trans b.perm.symm)
  have := of_decide_eq_false h
  omega
theorem oSortDK : CallS g (fun xs H Q => ∃ (a : Addr) (kvs : List (Key × V)) (ks : List Int), xs = [.ref a] ∧ Rd H a (.dK kvs) ∧ kvs.map (·.1) = ks.map Sum.inl ∧ ks.length < 64 ∧
    ∀ (ys : List Int) (p : Addr), ys.Perm ks → ys.Pairwise (· ≤ ·) → H p = none → Q (.ref p) (upd H p (.lst (ys.map V.int)))) fSortDK := by
  intro ρ h H xs vs Q E S r f
  unfold fSortDK at f
  split at f
  · rename_i i
    obtain ⟨v, rfl, r1⟩ := one_of r
    simp only [RelW] at r1
    obtain ⟨hi, rfl⟩ := r1
    split at f
    · rename_i kvs eg
      obtain ⟨_, us, e1, rk⟩ := S.at_ _ _ eg
      split at f
      · rename_i is ei
        split at f
        · rename_i len
          refine ⟨_, us, is, rfl, .inl e1, keysI_ok rk ei, blt_ok len, fun ys p pm pw hp => ?_⟩
          rw [sorted_same pm pw]
          exact f.push S (ints_rel _) hp
        · exact f.elim
      · exact f.elim
    · exact f.elim
  · exact f.elim
def fSortB := orElse_ fSortA fSortDK
theorem x_sortB (hK : X.K = g.K) {k : Nat} (hc : X.calm = true) (hr : Room k X.A) {p : Pos} {es : List Expr} {ra : Dn (List W)} (hg : Gl X "sorted") (hm : X.mg "sorted" = none) (ha : PA X (e :: es) (tA g Wx ra)) (he : starEach (e :: es) X.env = (false, eval e X.env) :: starEach es X.env := by rfl) (hpl : (backTo pos (starEach es X.env)).any (·.1) = false := by rfl) :
    PE X (.Call (.Name "sorted" p) (e :: es) [] pos) (tE g Wx (dOne fSortB ra)) :=
  m_callB (((cr_sortedI.or cr_sortedPO).or (cr_sortedD hr)).or (call_sortedDI hc)) (by rw [hK]; exact CallS.or_ (CallS.or_ (by rw [fSortM_eq]; exact oSorted) oSortD) oSortDK) hg hm (by decide +kernel) ha (by decide) (by decide) he hpl
end
end M

set_option Elab.async false
set_option linter.all false
set_option maxRecDepth 100000
set_option maxHeartbeats 4000000
namespace M
open PySem PySem.Spec PyProof.Rows L2

/-! ### sorted(set(xs)), tuples of as many ints from 0 -/
theorem code_inj {B : Int} : ∀ {xs ys : List Int}, xs.length = ys.length → TS.Bd B xs → TS.Bd B ys → TS.code B xs = TS.code B ys → xs = ys
  | [], [], _, _, _, _ => rfl
  | x :: xs, y :: ys, hl, h1, h2, e => by
    have hl' : xs.length = ys.length := Nat.succ.inj hl
    rcases Int.lt_trichotomy x y with q | q | q
    · have := TS.code_lt hl' h1.tail h2.tail q
      omega
    · subst q
      have e' : x * B ^ xs.length + TS.code B xs = x * B ^ ys.length + TS.code B ys := e
      rw [hl'] at e'
      rw [code_inj hl' h1.tail h2.tail (by omega)]
    · have := TS.code_lt hl'.symm h2.tail h1.tail q
      omega
def tupI (is : List Int) : W := .tup (is.map W.int)
def asTs : List W → Option (List (List Int))
  | [] => some []
  | .tup xs :: r => match allI xs, asTs r with
    | some is, some l => some (is :: l)
    | _, _ => none
  | _ :: _ => none
section
variable {g : Gd} {X : Cx} {Wx : WX} {e a b c : Expr} {pos : Pos} {tg : Expr}
theorem asTs_ok {ρ : Nat → Addr} {n : Nat} {H : Hp} : ∀ {xs : List W} {ls : List (List Int)} {vs : List V}, asTs xs = some ls → RelWs g ρ n H xs vs → ∃ ks : List (Addr × List Int), vs = ks.map (fun p => V.ref p.1) ∧ (∀ p ∈ ks, H p.1 = some (.tup (p.2.map V.int))) ∧ ks.map (·.2) = ls
  | [], ls, vs, e, r => by
    unfold asTs at e
    injection e with e
    exact ⟨[], r.inv_nil, by simp, by rw [← e]; rfl⟩
  | x :: xs, ls, vs, e, r => by
    obtain ⟨v, u, rfl, r1, r2⟩ := r.inv_cons
    unfold asTs at e
    split at e
    · rename_i q; cases q
    · rename_i ys xs' q
      injection q with q1 q2
      subst q1; subst q2
      split at e
      · rename_i is l e1 e2
        injection e with e
        simp only [RelW] at r1
        obtain ⟨t, us, rfl, h1, h2⟩ := r1
        obtain ⟨ks, rfl, h3, h4⟩ := asTs_ok e2 r2
        refine ⟨(t, is) :: ks, rfl, fun p hp => ?_, by rw [← e, ← h4]; rfl⟩
        rcases List.mem_cons.mp hp with q | q
        · rw [q, h1, allI_ok e1 h2]
        · exact h3 p q
      · cases e
    · cases e
def bdB (B : Int) (d : Nat) (ls : List (List Int)) : Bool := ls.all fun is => Nat.beq is.length d && is.all fun i => decide (0 ≤ i) && decide (i < B)
theorem bdB_ok {B : Int} {d : Nat} {ls : List (List Int)} (e : bdB B d ls = true) : ∀ is ∈ ls, is.length = d ∧ TS.Bd B is := fun is h => by
  have := List.all_eq_true.mp e is h
  obtain ⟨e1, e2⟩ := Bool.and_eq_true_iff.mp this
  refine ⟨Nat.eq_of_beq_eq_true e1, fun m hm => ?_⟩
  obtain ⟨e3, e4⟩ := Bool.and_eq_true_iff.mp (List.all_eq_true.mp e2 m hm)
  exact ⟨of_decide_eq_true e3, of_decide_eq_true e4⟩
def maxB : List (List Int) → Int
  | [] => 1
  | is :: r => is.foldl (fun m i => if m ≤ i then i + 1 else m) (maxB r)
def lenB : List (List Int) → Nat
  | [] => 1
  | is :: _ => is.length
def ltC (B : Int) (x y : List Int) : Bool := decide (TS.code B x < TS.code B y)
theorem swoC (B : Int) : SrtO.Swo (ltC B) := by
  refine ⟨fun x y h => ?_, fun x y z h1 h2 => ?_⟩
  · unfold ltC at h ⊢
    have := of_decide_eq_true h
    exact decide_eq_false (by omega)
  · unfold ltC at h1 h2 ⊢
    have := of_decide_eq_false h1
    have := of_decide_eq_false h2
    exact decide_eq_false (by omega)
def fSortSet (xs : List W) (h : MH) : Res W := match xs with
  | [w] => (match litems w h with
    | some ys => (match asTs ys with
      | some ls => (match Nat.blt ls.length 64 && (Nat.blt 0 (lenB ls) && bdB (maxB ls) (lenB ls) ls) with
        | true => .ok (.ref h.n) (h.push (.lst ((msort (ltC (maxB ls)) (dd ls)).map tupI)))
        | false => .stuck)
      | none => .stuck)
    | none => .stuck)
  | _ => .stuck
theorem tupI_rel {ρ : Nat → Addr} {n : Nat} {H : Hp} : ∀ L : List (Addr × List Int), (∀ q ∈ L, H q.1 = some (.tup (q.2.map V.int))) → RelWs g ρ n H (L.map fun q => tupI q.2) (L.map fun q => V.ref q.1)
  | [], _ => RelWs.nil
  | q :: L, h => .cons (by
      unfold tupI
      simp only [RelW]
      exact ⟨q.1, _, rfl, h q List.mem_cons_self, ints_rel q.2⟩) (tupI_rel L fun p hp => h p (List.mem_cons_of_mem _ hp))
theorem m_sortSet (hK : X.K = g.K) (hcalm : X.calm = true) {k : Nat} (hr : Room k X.A) {p p2 pos2 : Pos} {ra : Dn (List W)} (hg : Gl X "sorted") (hm : X.mg "sorted" = none) (hg2 : Gl X "set") (hm2 : X.mg "set" = none) (ha : PA X [e] (tA g Wx ra))
    (he : starEach [e] X.env = (false, eval e X.env) :: starEach [] X.env := by rfl) :
    PE X (.Call (.Name "sorted" p) [.Call (.Name "set" p2) [e] [] pos2] [] pos) (tE g Wx (dOne fSortSet ra)) := by
  have inner : PE X (.Call (.Name "set" p2) [e] [] pos2) _ := pe_callTy (cr_setOfT hcalm hr.units) hg2 hm2 (by decide +kernel) ha (by decide) (by decide) he
  have outer : PE X (.Call (.Name "sorted" p) [.Call (.Name "set" p2) [e] [] pos2] [] pos) _ := pe_callB (cr_sortedT hcalm) hg hm (by decide +kernel) (pa_cons inner pa_nil rfl) (by decide) (by decide)
  refine weak outer fun σ H Q q => ?_
  refine one_reads (R1 := RelWs g) q fun ρ h H x vx S r f => ?_
  unfold fSortSet at f
  split at f
  · rename_i w
    split at f
    · rename_i ys e1
      split at f
      · rename_i ls e2
        split at f
        · rename_i e3
          obtain ⟨c1, c2⟩ := Bool.and_eq_true_iff.mp e3
          obtain ⟨c2, c3⟩ := Bool.and_eq_true_iff.mp c2
          have bd := bdB_ok c3
          obtain ⟨v, rfl, r1⟩ := one_of r
          obtain ⟨l, us, rfl, hs, rr⟩ := litems_ok S r1 e1
          obtain ⟨ks, rfl, h2, h3⟩ := asTs_ok e2 rr
          have hl : ks.length < 64 := by
            have := blt_ok c1
            rw [← h3, List.length_map] at this
            exact this
          refine ⟨l, ks, rfl, by rw [hK]; exact hs, fun p hp => SqT.of (h2 p hp), hl, fun b L hb hsub hall => ?_⟩
          have keepT : ∀ p ∈ L, (upd H b (SetTO X.prog X.w b L)) p.1 = some (.tup (p.2.map V.int)) := fun p hp => by
            have := h2 p (hsub p hp)
            rw [upd_ne (ne_of_none this hb)]
            exact this
          have inls : ∀ p ∈ L, p.2 ∈ ls := fun p hp => by rw [← h3]; exact List.mem_map.mpr ⟨p, hsub p hp, rfl⟩
          refine ⟨b, L, lenB ls, maxB ls, rfl, upd_same, fun p hp => SqT.of (keepT p hp), blt_ok c2, fun p hp => bd p.2 (inls p hp), fun L' t pm nd _ pw ht => ?_⟩
          have X1 : Ext ρ h.n H ρ h.n (upd H b (SetTO X.prog X.w b L)) := Ext.out S hb
          have S1 : Sim g ρ h (upd H b (SetTO X.prog X.w b L)) := Sim.out S hb
          have same : L'.map (·.2) = msort (ltC (maxB ls)) (dd ls) := by
            obtain ⟨s1, s2⟩ := msortF_ok (swoC (maxB ls)) 20 (dd ls)
            have mem : ∀ x, x ∈ L'.map (·.2) ↔ x ∈ dd ls := fun x => by
              rw [dd_mem, ← h3]
              constructor
              · intro hx
                obtain ⟨p, hp, e⟩ := List.mem_map.mp hx
                exact List.mem_map.mpr ⟨p, hsub p (pm.mem_iff.mp hp), e⟩
              · intro hx
                obtain ⟨p, hp, e⟩ := List.mem_map.mp hx
                obtain ⟨q, hq, e'⟩ := List.mem_map.mp (hall p hp)
                exact List.mem_map.mpr ⟨q, pm.mem_iff.mpr hq, e'.trans e⟩
            have P : (L'.map (·.2)).Perm (msort (ltC (maxB ls)) (dd ls)) := ((List.perm_ext_iff_of_nodup nd dd_nodup).mpr mem).trans s2.perm.symm
            have bnd : ∀ x ∈ L'.map (·.2), x.length = lenB ls ∧ TS.Bd (maxB ls) x := fun x hx => bd x (dd_mem.mp ((mem x).mp hx))
            refine List.Perm.eq_of_pairwise (le := fun x y => TS.code (maxB ls) x ≤ TS.code (maxB ls) y) (fun x y hx hy l1 l2 => ?_) (List.pairwise_map.mpr pw) (s1.imp fun {x y} z => ?_) P
            · have b1 := bnd x hx
              have b2 := bnd y (P.mem_iff.mpr hy)
              exact code_inj (b1.1.trans b2.1.symm) b1.2 b2.2 (Int.le_antisymm l1 l2)
            · have := of_decide_eq_false z
              omega
          rw [← same] at f
          have rel : RelWs g ρ h.n (upd H b (SetTO X.prog X.w b L)) ((L'.map (·.2)).map tupI) (L'.map fun q => V.ref q.1) := by
            have := tupI_rel (g := g) (ρ := ρ) (n := h.n) L' fun q hq => keepT q (pm.mem_iff.mp hq)
            rw [List.map_map]
            exact this
          exact (Fin.later X1 f).push S1 rel ht
        · exact f.elim
      · exact f.elim
    · exact f.elim
  · exact f.elim
end
end M

set_option Elab.async false
set_option linter.all false
set_option maxRecDepth 100000
set_option maxHeartbeats 4000000
namespace M
open PySem PySem.Spec PyProof.Rows L2

/-! ### {k: v for x in xs if c}, keys ints and texts, or tuples of these -/
/-- one entry, whatever the keys -/
theorem entry_put {X : Cx} {pins : List (Addr × Obj)} {σ : L2.St} {H H' : Hp} {s : Shared} {E : Value → Shared → Prop} {D : Addr} {y z : V} {u r : Value} {Q : Unit → Shared → Prop} (hu : X.A.units < cLine) (I : Inv X pins σ H s) (g1 : DPut H D y z H') (ry : RelV y u) (rz : RelV z r)
    (k : ∀ s', Inv X pins σ H' s' → Q () s') : wpAny (model X.prog X.w) X.A (dictSet D u r) Q E s := by
  rcases g1 with ⟨kvs, key, e, rfl, l, rfl⟩ | ⟨kvs, key, b, e, rfl, hb, l, rfl⟩
  · exact d_dictSet I e l ry rz k
  · cases ry
    obtain ⟨_, hd, xs, rel, dd⟩ := dt_of I.hok e
    have few : xs.length ≤ sizeLine := by
      have e1 := Paired.length rel
      omega
    refine wpAny_dictSet_heap (hsz := few) hu (key_of I.hok hb) dd fun h' dd' hs => k _ ?_
    obtain ⟨ob, es, ep, g1, g2, g3, g4, _, g5⟩ := dd'
    have grown : (putK kvs key z).length ≤ sizeLine := by
      have e1 := length_putK kvs key z
      omega
    have keptT : ∀ c ys, H c = some (.tup ys) → upd H D (.dT (putK kvs key z)) c = some (.tup ys) := fun c ys ec => by
      rw [upd_ne (ne_of ec e (fun q => nomatch q))]
      exact ec
    exact d_write (t' := _) I (by rw [e]; exact True.intro) hs ⟨ob, g1⟩ ⟨grown, hd, _, (rel.put key hb rz).keeps keptT, ob, es, ep, g1, g2, g3, g4, g5⟩
/-- the empty dict, as which it stands -/
def noKeys : Bool → HO
  | false => .dK []
  | true => .dT []
theorem noKeys_ok {P : Program} {w : World} {H : Hp} (t : Bool) (h : Heap) (hb : sysModules < h.objs.size) : ObjOk P w H (h.push { cls := .type "dict", data := .dict #[] }) h.objs.size (noKeys t) := by
  cases t
  · exact dk_empty h hb
  · exact dt_empty h hb
def tDcA (t : Bool) (wi : TI) (g : TG) (tt : TT) (tk tv : TE) (vs : List Nat) : TE := fun σ H Q => wi σ H fun J H1 => ∀ D, H1 D = none → ∃ Wn : Nat → Nat → Hp → Prop, (∃ m, Wn 0 m (upd H1 D (noKeys t))) ∧
  ∀ i m H, Wn i m H → (J.stop i H ∧ Q (.ref D) H) ∨ (J.go i H ∧ ∃ Nx : Hp → Prop, (∀ H', Nx H' → ∃ m', m' < m ∧ Wn (i + 1) m' H') ∧
    ∀ x H', J.yld i H x H' → g x (wipe σ vs) H' fun σ2 H2 => wipe σ2 vs = wipe σ vs ∧ tt σ2 H2 fun b H3 => if b = true then tk σ2 H3 fun y H4 => tv σ2 H4 fun z H5 => ∃ H6, DPut H5 D y z H6 ∧ Nx H6 else Nx H3)
abbrev InBlk (X : Cx) (scope : Scope) (P : Cx → Prop) : Prop := ∀ (s : Shared) (H : Hp) (C : Addr) (cl : List (Str × Addr)) (fp : List Addr), P (X.blk s H scope (compEnvC scope cl C X.env) fp)
theorem pe_dcA {X : Cx} {t : Bool} {kx vx tg iter : Expr} {ifs : List Expr} {scope : Scope} {own : List (Str × Nat)} {pos : Pos} {wi : TI} {g : TG} {tt : TT} {tk tv : TE} (hu : X.A.units < cLine) (hc : X.calm = true) (hN : X.N.Nodup) (hi : PI X tg iter wi) (bo : BlkOk X.N X.env.scope scope own)
    (hg : InBlk X scope fun X' => PG X' tg g) (ht : InBlk X scope fun X' => PTs X' ifs tt) (hk : InBlk X scope fun X' => PE X' kx tk) (hv : InBlk X scope fun X' => PE X' vx tv) (hs : ∀ x, foldedSetIterable iter X.env x = pure x := by intro _; rfl) :
    PE X (.DictComp kx vx [⟨tg, iter, ifs, 0⟩] scope pos) (tDcA t wi g tt tk tv (own.map (·.2))) := by
  constructor
  intro pins s0 σ H0 Q I0 q0
  rw [arm_eval_DictComp]
  have cellsOk : ∀ y ∈ scope.names, y.2 = .free → ∃ c, X.env.cells.lookup y.1 = some c := fun y hy e => (bo.free y hy e).elim (fun k => I0.ok.has _ (.inl k)) fun k => I0.ok.has _ (.inr k)
  refine wpAny_comprehension_free (use := none) rfl hs (closure_ok cellsOk) bo.kind (fun y hy e => by rw [bo.uniq y hy, e]) (thn (hi.run pins s0 σ H0 _ I0 q0) fun xv s1 hx => thn hx ?_)
  rintro _ s2 ⟨it, fp, tn, J, H2, rfl, I2, T, st2, f2, q⟩
  refine wpAny_newObj_type (newEnv_comp ?_)
  generalize eD : s2.heap.objs.size = D
  have freeD : H2 D = none := I2.hok.fresh (Nat.le_of_eq eD)
  obtain ⟨Wn, ⟨m0, w0⟩, turn⟩ := q D freeD
  generalize e3 : ({ s2 with heap := s2.heap.push { cls := .type "dict", data := .dict #[] } } : Shared) = s3
  have hp3 : s3.heap = s2.heap.push { cls := .type "dict", data := .dict #[] } := by rw [← e3]
  have I3 : Inv X pins σ (upd H2 D (noKeys t)) s3 := by
    rw [← e3]
    exact I2.laid (t' := s2.toks) (fun _ o e => Heap.get?_push_of_some _ e) (Nat.le_of_eq eD) (by rw [← eD]; exact noKeys_ok t s2.heap I2.big)
  have below : ∀ b ∈ fp, b < s2.heap.objs.size := fun b hb => let ⟨_, e, _⟩ := T.obj _ _ st2 b hb; Heap.lt_size e
  have f3 : ∀ b ∈ fp, FpOk X pins (upd H2 D (noKeys t)) b ∧ b < s3.heap.objs.size := fun b hb => by
    have lt := below b hb
    exact ⟨⟨by rw [upd_ne (by rw [← eD]; exact Nat.ne_of_lt lt)]; exact (f2 b hb).1, (f2 b hb).2⟩, by rw [hp3, Heap.size_push]; exact Nat.lt_succ_of_lt lt⟩
  have st3 : tn 0 s3.heap := T.keep _ _ _ st2 fun _ _ o e => by rw [hp3]; exact Heap.get?_push_of_some _ e
  have I4 := block_start I3 bo hN f3
  generalize eC : cellsFrom (s3.heap.objs.size + 1) scope.names (cloFrom X.env.cells scope.names []) = cl at I4
  have pg := hg s3 (upd H2 D (noKeys t)) s3.heap.objs.size cl fp
  have pt := ht s3 (upd H2 D (noKeys t)) s3.heap.objs.size cl fp
  have pk := hk s3 (upd H2 D (noKeys t)) s3.heap.objs.size cl fp
  have pv := hv s3 (upd H2 D (noKeys t)) s3.heap.objs.size cl fp
  show codeAny _ _ (.compStart (.DictComp kx vx [⟨tg, iter, ifs, 0⟩] scope pos) 0 (.ref it) (.ref D) (compEnvC scope cl s3.heap.objs.size X.env)) (compPost (model X.prog X.w) X.A X.xe none (EP X pins σ Q) (.ref D) s3.heap.objs.size) { s3 with heap := pushCells (s3.heap.push { cls := .type "dict", data := .dict #[] }) scope.names }
  have clear : ∀ b ∈ fp, (upd H2 D (noKeys t)) b = none := fun b hb => (f3 b hb).1.1
  generalize eE : compEnvC scope cl s3.heap.objs.size X.env = ce at I4 pg pt pk pv ⊢
  have loc : ce.locals = s3.heap.objs.size := by subst eE; rfl
  generalize eH : upd H2 D (noKeys t) = H3 at I3 I4 pg pt pk pv w0 clear f3
  generalize e4 : ({ s3 with heap := pushCells (s3.heap.push { cls := .type "dict", data := .dict #[] }) scope.names } : Shared) = s4 at I4 ⊢
  have st4 : tn 0 s4.heap := T.keep _ _ _ st3 fun _ _ o e => by rw [← e4]; exact pushCells_keeps _ _ _ _ (Heap.get?_push_of_some _ e)
  let B : Cx := X.blk s3 H3 scope ce fp
  have still : ∀ {σ' : L2.St} {H' : Hp} {s' : Shared}, Inv B [] σ' H' s' → (∀ b ∈ fp, H' b = none) → ∀ b ∈ fp, FpOk B [] H' b := fun {σ' H' s'} I' no b hb =>
    ⟨no b hb, (I'.ok.exf b hb).1, I'.ok.exfs b hb, .inl hb, fun x c e => (I'.ok.exf b hb).2 x c e, fun p hp => absurd (show p ∈ ([] : List (Addr × Obj)) ++ [] from hp) (by simp)⟩
  suffices run : codeAny (model X.prog X.w) X.A (.compLoop (.DictComp kx vx [⟨tg, iter, ifs, 0⟩] scope pos) 0 (.ref it) (.ref D) ce) (compPost (model X.prog X.w) X.A X.xe none (EP X pins σ Q) (.ref D) s3.heap.objs.size) s4 from
    codeAny_compStart_dict run (T.self X.A 0 _ _ _ st4 run)
  refine compLoop_anyD (fun n s' => ∃ i H', Inv B [] (wipe σ (own.map (·.2))) H' s' ∧ tn i s'.heap ∧ (∀ b ∈ fp, H' b = none) ∧ Wn i n H') ?_ m0 ⟨0, H3, I4, st4, clear, w0⟩
  rintro n s5 ⟨i, H5, I5, st5, no5, w5⟩
  rcases turn i n H5 w5 with ⟨stop, qq⟩ | ⟨go, Nx, down, step⟩
  · refine thnF (T.done B rfl rfl rfl hc i [] s5 _ H5 (fun _ _ => False) I5 (still I5 no5) st5 stop) ?_
    rintro _ s6 ⟨rfl, I6⟩
    have back : Inv X pins σ H5 s6 := I3.call' (ch := fp) I6.os I6.base I6.hok I6.bare fun b hb => let z := (f3 b hb).1.2; ⟨z.2.2.1, z.1, z.2.2.2.1, z.2.2.2.2⟩
    have freeC : H5 s3.heap.objs.size = none := by rw [← loc]; exact I6.free
    obtain ⟨ns, hn, _⟩ := I6.loc
    have hn : s6.heap.Ns s3.heap.objs.size ns := by rw [← loc]; exact hn
    obtain ⟨z0, z1, z2, z3, z4, z5⟩ := I3.fpOk (Nat.le_refl _) freeC
    exact ⟨ns, hn, fun h'' sb => ⟨.ref D, H5, back.turned (t' := s6.toks) (fun b o hb e => (sb.2 b hb).trans e) z0 z1 z3 z4 z5, rfl, qq⟩⟩
  · refine thnF (T.item B rfl rfl rfl hc i [] s5 _ H5 (fun _ _ => False) I5 (still I5 no5) st5 go) ?_
    rintro _ s6 ⟨u, rfl, h6⟩
    refine thnF h6 ?_
    rintro _ s7 ⟨x, H7, I7, r7, y7, st7, no7⟩
    have P7 := I7.pinned (still I7 no7) (T.obj _ _ st7)
    refine thnF (pg.run _ s7 _ H7 x u _ P7 r7 (step x H7 y7)) ?_
    rintro _ s8 ⟨σ8, H8, I8, wd, q8⟩
    -- when the turn is over
    have over : ∀ {s' : Shared} {H' : Hp}, Inv B ([] ++ pinsAt fp s7.heap) σ8 H' s' → Nx H' → ∃ m, m < n ∧ ∃ i H', Inv B [] (wipe σ (own.map (·.2))) H' s' ∧ tn i s'.heap ∧ (∀ b ∈ fp, H' b = none) ∧ Wn i m H' := fun {s' H'} I' nx => by
      obtain ⟨m', lt, w'⟩ := down H' nx
      have pin : ∀ b ∈ fp, ∀ o, s7.heap.get? b = some o → s'.heap.get? b = some o ∧ H' b = none := fun b hb o e => let z := I'.pin (b, o) (List.mem_append_right _ (List.mem_append_right _ (mem_pinsAt hb e))); ⟨z.1, z.2.1⟩
      have same : (wipe σ (own.map (·.2))).length = σ8.length := by rw [← wd, wipe_length]
      refine ⟨m', lt, i + 1, H', (I'.unpinned (pins := [])).weak same (fun j v e => by rw [← wd] at e; exact (wipe_some e).1), T.keep _ _ _ st7 fun b hb o e => (pin b hb o e).1, fun b hb => ?_, w'⟩
      obtain ⟨o, e, _⟩ := T.obj _ _ st7 b hb
      exact (pin b hb o e).2
    refine thnF (pt.run _ s8 σ8 H8 _ I8 q8) ?_
    rintro b s9 ⟨H9, I9, q9⟩
    cases b with
    | false =>
      simp only [Bool.false_eq_true, if_false] at q9 ⊢
      exact over I9 q9
    | true =>
      simp only [if_true] at q9 ⊢
      refine thnF (pk.run _ s9 σ8 H9 _ I9 q9) ?_
      rintro kv sA ⟨yk, HA, IA, rk, qA⟩
      refine thnF (pv.run _ sA σ8 HA _ IA qA) ?_
      rintro vv sB ⟨yv, HB, IB, rv, HC, pC, nx⟩
      exact entry_put (X := B) hu IB pC rk rv fun _ IC => over IC nx
end M

set_option Elab.async false
set_option linter.all false
set_option maxRecDepth 100000
set_option maxHeartbeats 4000000
namespace M
open PySem PySem.Spec PyProof.Rows L2
section
variable {g : Gd} {X : Cx} {Wx : WX} {e a b c : Expr} {pos : Pos} {tg : Expr}
/-- the dict is the small heap's from the first turn on -/
def dDcGo (nx : Nx) (b : W → WS → Option WS) (t : Dn Bool) (mk mv : Dn W) (ws : WS) (k : Nat) : Nat → Nat → MH → Res W
  | 0, _ => fun _ => .stuck
  | f + 1, i => fun h => match nx i h with
    | none => .stuck
    | some none => .ok (.ref k) h
    | some (some w) => (match b w ws with
      | none => .stuck
      | some ws' => (match t ws' h with
        | .ok true h1 => (match mk ws' h1 with
          | .ok y h2 => (match mv ws' h2 with
            | .ok z h3 => (match dwrite (.ref k) y z h3 with
              | some h4 => dDcGo nx b t mk mv ws k f (i + 1) h4
              | none => .stuck)
            | _ => .stuck)
          | _ => .stuck)
        | .ok false h1 => dDcGo nx b t mk mv ws k f (i + 1) h1
        | _ => .stuck))
def dDc (kd : Bool) (m : Dn Nx) (vs : List Nat) (b : W → WS → Option WS) (t : Dn Bool) (mk mv : Dn W) : Dn W := fun ws h => (m ws h).bnd fun nx h1 => dDcGo nx b t mk mv (wipeW ws vs) h1.n LOOPS 0 (h1.push (.dic kd []))
theorem noKeys_rel {ρ : Nat → Addr} {n : Nat} {H : Hp} (t : Bool) : RelObj g ρ n H (.dic t []) (some (noKeys t)) := by
  cases t
  · exact ⟨[], rfl, rfl⟩
  · exact ⟨[], rfl, rfl⟩
theorem dc_reads {kd : Bool} {us vs : List Nat} {tgt : TG} {bd : W → WS → Option WS} (G : GS g us tgt bd) (hu : ∀ i ∈ us, i ∈ vs) {m : Dn Nx} {mt : Dn Bool} {mk mv : Dn W} {σ : L2.St} {H : Hp} {Q : VK} (x : tE g Wx (dDc kd m vs bd mt mk mv) σ H Q) :
    tDcA kd (tI g Wx m) tgt (tT g W0 mt) (tE g W0 mk) (tE g W0 mv) vs σ H Q := by
  obtain ⟨ρ, ws, h, S, sl, fin⟩ := x
  refine ⟨ρ, ws, h, S, sl, (Fin.bnd (R := fun ρ' n' H' (nx : Nx) (J : It) => ∃ P, ItOk g J P nx ∧ P ρ' n' H') fin).mono fun J H1 ⟨ρ1, h1, nx, X1, S1, ⟨P, ok, p1⟩, f1⟩ => ?_⟩
  intro D hD
  have X2 : Ext ρ1 h1.n H1 (exρ ρ1 h1.n D) (h1.n + 1) (upd H1 D (noKeys kd)) := Ext.push S1 hD
  have S2 : Sim g (exρ ρ1 h1.n D) (h1.push (.dic kd [])) (upd H1 D (noKeys kd)) := S1.pushO hD (noKeys_rel kd)
  have f2 := Fin.later (h1 := h1.push (.dic kd [])) X2 f1
  have X0 : Ext (exρ ρ1 h1.n D) (h1.n + 1) (upd H1 D (noKeys kd)) (exρ ρ1 h1.n D) (h1.push (.dic kd [])).n (upd H1 D (noKeys kd)) := S2.refl
  have atD : exρ ρ1 h1.n D h1.n = D := if_pos rfl
  refine ⟨fun i f H' => ∃ ρ' h', Ext (exρ ρ1 h1.n D) (h1.n + 1) (upd H1 D (noKeys kd)) ρ' h'.n H' ∧ Sim g ρ' h' H' ∧ Sl g ρ' h'.n H' (wipeW ws vs) (wipe σ vs) ∧ P ρ' h'.n H' ∧ Fin g (RelW g) ρ' h' H' Q (fun c d H' => Wx c d σ H') (dDcGo nx bd mt mk mv (wipeW ws vs) h1.n f i h'),
    ⟨LOOPS, exρ ρ1 h1.n D, h1.push (.dic kd []), X0, S2, ((sl.ext X1).wipe vs).ext X2, ok.ext X2 p1, f2⟩, ?_⟩
  rintro i f H3 ⟨ρ3, h3, X3, S3, sl3, p3, f3⟩
  have here : ∀ {ρ' : Nat → Addr} {n' : Nat} {H' : Hp}, Ext (exρ ρ1 h1.n D) (h1.n + 1) (upd H1 D (noKeys kd)) ρ' n' H' → RelW g ρ' n' H' (.ref h1.n) (.ref D) := fun E => by
    simp only [RelW]
    exact ⟨Nat.lt_of_lt_of_le (Nat.lt_succ_self _) E.le, by rw [E.eq _ (Nat.lt_succ_self _), atD]⟩
  cases f with
  | zero => exact f3.elim
  | succ f =>
    unfold dDcGo at f3
    cases en : nx i h3 with
    | none => simp only [en] at f3; exact f3.elim
    | some o =>
      cases o with
      | none =>
        simp only [en] at f3
        exact .inl ⟨ok.stop ρ3 h3 H3 i S3 p3 en, f3 ρ3 H3 (.ref D) S3.refl S3 (here X3)⟩
      | some w =>
        simp only [en] at f3
        obtain ⟨g1, g2⟩ := ok.go ρ3 h3 H3 i w S3 p3 en
        refine .inr ⟨g1, fun H' => ∃ ρ' h', Ext (exρ ρ1 h1.n D) (h1.n + 1) (upd H1 D (noKeys kd)) ρ' h'.n H' ∧ Sim g ρ' h' H' ∧ Sl g ρ' h'.n H' (wipeW ws vs) (wipe σ vs) ∧ P ρ' h'.n H' ∧ Fin g (RelW g) ρ' h' H' Q (fun c d H' => Wx c d σ H') (dDcGo nx bd mt mk mv (wipeW ws vs) h1.n f (i + 1) h'),
          fun H' z => ⟨f, Nat.lt_succ_self _, z⟩, fun v H4 y => ?_⟩
        obtain ⟨X4, S4, r4⟩ := g2 v H4 y
        cases eb : bd w (wipeW ws vs) with
        | none => simp only [eb] at f3; exact f3.elim
        | some ws' =>
          simp only [eb] at f3
          refine G.go ρ3 h3 H4 w v (wipeW ws vs) (wipe σ vs) _ S4 r4 (sl3.ext X4) ws' eb fun σ' sl' w' => ⟨by rw [w' vs hu]; exact wipe_idem, ?_⟩
          refine ⟨ρ3, ws', h3, S4, sl', ?_⟩
          cases et : mt ws' h3 with
          | exc c fs h' => simp only [et] at f3; exact f3.elim
          | stuck => simp only [et] at f3; exact f3.elim
          | ok k h5 =>
            intro ρ5 H5 k' X5 S5 r5
            have ek : k = k' := r5
            subst ek
            have X35 := X4.trans X5
            cases k with
            | false =>
              simp only [et] at f3
              rw [if_neg Bool.false_ne_true]
              exact ⟨ρ5, h5, X3.trans X35, S5, sl3.ext X35, ok.ext X35 p3, Fin.later X35 f3⟩
            | true =>
              simp only [et] at f3
              rw [if_pos rfl]
              refine ⟨ρ5, ws', h5, S5, sl'.ext X5, ?_⟩
              cases e1 : mk ws' h5 with
              | exc c fs h' => simp only [e1] at f3; exact f3.elim
              | stuck => simp only [e1] at f3; exact f3.elim
              | ok yy h6 =>
                simp only [e1] at f3
                intro ρ6 H6 vy X6 S6 r6
                refine ⟨ρ6, ws', h6, S6, (sl'.ext X5).ext X6, ?_⟩
                cases e2 : mv ws' h6 with
                | exc c fs h' => simp only [e2] at f3; exact f3.elim
                | stuck => simp only [e2] at f3; exact f3.elim
                | ok zz h7 =>
                  simp only [e2] at f3
                  intro ρ7 H7 vz X7 S7 r7
                  have X37 := (X35.trans X6).trans X7
                  cases e3 : dwrite (.ref h1.n) yy zz h7 with
                  | none => simp only [e3] at f3; exact f3.elim
                  | some h8 =>
                    simp only [e3] at f3
                    obtain ⟨a, H8, ea, pt, n8, X8, S8⟩ := dwrite_ok S7 (here (X3.trans X37)) (r6.ext X7) r7 e3
                    cases ea
                    rw [← n8] at X8
                    have X38 : Ext ρ3 h3.n H3 ρ7 h8.n H8 := (by rw [n8] at X8 ⊢; exact X37.trans X8)
                    exact ⟨H8, pt, ρ7, h8, X3.trans X38, S8, sl3.ext X38, ok.ext X38 p3, Fin.later X38 f3⟩
theorem m_dc {kd : Bool} {us : List Nat} {kx vx iter : Expr} {ifs : List Expr} {scope : Scope} {own : List (Str × Nat)} {tgt : TG} {bd : W → WS → Option WS} {m : Dn Nx} {mt : Dn Bool} {mk mv : Dn W} {k : Nat} (hr : Room k X.A) (hc : X.calm = true) (hN : X.N.Nodup) (hi : PI X tg iter (tI g Wx m)) (ok : BlkOk X.N X.env.scope scope own)
    (hg : InBlk X scope fun X' => PG X' tg tgt) (G : GS g us tgt bd) (hu : ∀ i ∈ us, i ∈ own.map (·.2)) (ht : InBlk X scope fun X' => PTs X' ifs (tT g W0 mt)) (hk : InBlk X scope fun X' => PE X' kx (tE g W0 mk)) (hv : InBlk X scope fun X' => PE X' vx (tE g W0 mv))
    (hs : ∀ x, foldedSetIterable iter X.env x = pure x := by intro _; rfl) : PE X (.DictComp kx vx [⟨tg, iter, ifs, 0⟩] scope pos) (tE g Wx (dDc kd m (own.map (·.2)) bd mt mk mv)) :=
  weak (pe_dcA hr.units0 hc hN hi ok hg ht hk hv hs) fun σ H Q q => dc_reads G hu q
end
end M

set_option Elab.async false
set_option linter.all false
set_option maxRecDepth 100000
set_option maxHeartbeats 4000000
namespace M
open PySem PySem.Spec PyProof.Rows L2
/-! ### set(xs), xs a tuple of tuples of ints -/
abbrev emptySet (w : World) : Obj := { cls := .type "set", dict := none, data := .set #[] 0 (.fresh 0 0 (!w.params.followText "set-order")) }
section
variable {P : Program} {w : World} {A : Around} {E : Value → Shared → Prop} {s : Shared}
theorem set_of_tuple {l : Addr} {items : Array Value} (ks : List (Addr × List Int)) {Q : Value → Shared → Prop} (calm : A.handled = none) (tl : s.heap.IsTuple l items) (its : items.toList = ks.map fun p => Value.ref p.1)
    (hk : ∀ p ∈ ks, IsT P w s.heap p.2 p.1) (few : ks.length < 64) (hu : A.units + 3 < cLine)
    (k : ∀ (h' : Heap) (tk : Nat) L es ep t, SetTR P w h' s.heap.objs.size L es ep t → Got ks ks.length L → (∀ b o, s.heap.get? b = some o → h'.get? b = some o) → Q (.ref s.heap.objs.size) { s with heap := h', toks := tk }) :
    wpAny (model P w) A (call (.type "set") [.ref l]) Q E s := by
  have size : items.size = ks.length := by rw [← Array.length_toList, its, List.length_map]
  obtain ⟨c, tl', hmro⟩ := F.called_set.mro
  have made := F.called_set.made
  have sub := F.called_set.sub
  refine wpAny_call (codeAny_of_tree ?_)
  show wpAny _ _ (callAny (.type "set") _) _ _ _
  refine wpAny_pure ⟨Code.quiet_builtin _ (by decide +kernel), codeAny_builtin F.entry_type_call ?_⟩
  rw [Around.under_plain (weight_type_call_type "set" [.ref l] []) rfl]
  have t1 := F.called_set.notType
  have t2 := F.called_set.canCreate
  have t3 := F.typeCall_set_1 (.ref l)
  repeat (any_goals (first | assumption | wp_step))
  refine codeAny_mono (code_set_led1 (.ref l) (E := E) (Q₁ := fun ob s1 => ob = .ref s.heap.objs.size ∧ s1 = { s with heap := s.heap.push (emptySet w) }) ⟨rfl, rfl⟩) fun r s1 hr => ?_
  cases r with
  | error e => exact hr
  | ok fl =>
    cases fl with
    | ret ob =>
      obtain ⟨rfl, rfl⟩ := hr
      have at0 : (s.heap.push (emptySet w)).get? s.heap.objs.size = some (emptySet w) := Heap.get?_push_size _ rfl
      have ty0 : Shared.TypeIs { s with heap := s.heap.push (emptySet w) } (.ref s.heap.objs.size) "set" := ⟨_, at0, rfl⟩
      have i1 := F.called_set.init.lookup
      have i2 := F.called_set.init.bind (.ref s.heap.objs.size)
      repeat (any_goals (first | assumption | wp_step))
      refine codeAny_mono (codeAny_call_builtin (R := wants (fun r s2 => r = .none ∧ ∃ h' tk L es ep t, s2 = { s with heap := h', toks := tk } ∧ SetTR P w h' s.heap.objs.size L es ep t ∧ Got ks ks.length L ∧ ∀ b o, s.heap.get? b = some o → h'.get? b = some o) E)
        F.called_set.init.plain F.entry_set_init (check_set_init_1 ty0 ?_)) fun r2 s2 hr2 => ?_
      · obtain ⟨⟨oc, od, oda, osl⟩, ho, hcl, nl, hdl⟩ := tl
        simp only at hcl hdl
        subst hcl; subst hdl
        have ho1 : (s.heap.push (emptySet w)).get? l = some { cls := .type "tuple", dict := od, data := .seq items nl, slots := osl } := Heap.get?_push_of_some _ ho
        have u1 := F.sub_tuple_set
        have u2 := F.sub_tuple_frozenset
        have u3 : (Value.type "tuple" == Value.type "dict") = false := by decide
        have tl1 : (s.heap.push (emptySet w)).IsTuple l items := ⟨_, ho1, rfl, nl, rfl⟩
        unfold Builtin.«set.__init__» noKeywords Builtin.Frozenset.updateFrom
        generalize gen : pyIter = it
        wp_walk
        subst gen
        refine wpAny_pyIter_tuple tl1 (wpAny_bind (wpAny_runValue ?_))
        have lt : l < s.heap.objs.size := Heap.lt_size ho
        have sz1 : (s.heap.push (emptySet w)).objs.size = s.heap.objs.size + 1 := Heap.size_push ..
        have calm3 : A.in1.in1.in1.handled = none := by simp [calm]
        have apart : l ≠ (s.heap.push (emptySet w)).objs.size := by
          rw [sz1]; exact Nat.ne_of_lt (Nat.lt_succ_of_lt lt)
        have clear : s.heap.objs.size ∉ [(s.heap.push (emptySet w)).objs.size, l] := by
          rw [sz1]
          intro z
          rcases List.mem_cons.mp z with z | z
          · exact absurd z (Nat.ne_of_lt (Nat.lt_succ_self _))
          · exact absurd (List.mem_singleton.mp z) (Nat.ne_of_gt lt)
        have val : ∀ (i : Nat) (v : Value), items[i]? = some v → ∃ p, ks[i]? = some p ∧ v = .ref p.1 := fun i v hv => by
          rw [← Array.getElem?_toList, its, List.getElem?_map] at hv
          obtain ⟨p, e1, e2⟩ := Option.map_eq_some_iff.mp hv
          exact ⟨p, e1, e2.symm⟩
        have noObj : ∀ b, s.heap.objs.size ≤ b → s.heap.get? b = none := fun b hb => by
          cases q : s.heap.get? b with
          | none => rfl
          | some o => exact absurd (Heap.lt_size q) (Nat.not_lt.mpr hb)
        refine set_update_tups ((Walks.tuple calm3 _ l apart items).toS) s.heap.objs.size clear ks size few val s.heap hk (noObj _ (Nat.le_refl _))
          (fun b hb => noObj b (by rw [List.mem_singleton.mp hb, sz1]; exact Nat.le_succ _)) hu (items.size - 0) 0 _ (by omega) (Nat.zero_le _)
          ⟨⟨_, Heap.get?_push_size _ rfl, rfl, rfl⟩, (tl1.push _)⟩ (fun b o e => Heap.get?_push_of_some _ (Heap.get?_push_of_some _ e)) ?start ?last
        case start =>
          have at1 : ((s.heap.push (emptySet w)).push { cls := .type "tuple_iterator", data := .fields #[.ref l, .int 0 0] }).get? s.heap.objs.size = some (emptySet w) := Heap.get?_push_of_some _ at0
          exact ⟨[], #[], 0, _, setTR_fresh at1, Got.zero ks⟩
        case last =>
          rintro ⟨h', g2, d', tk', os'⟩ L es ep t hm R got kept
          obtain rfl : g2 = s.gens := hm.gens
          obtain rfl : d' = s.drawn := hm.drawn
          obtain rfl : os' = s.os := hm.os
          show wpAny _ _ _ _ _ _
          refine wpAny_pure ?_
          show wpAny _ _ (ret Value.none) _ _ _
          rw [size] at got
          exact wpAny_pure ⟨rfl, h', tk', L, es, ep, t, rfl, R, got, kept⟩
      · cases r2 with
        | error e => exact hr2
        | ok fl2 =>
          cases fl2 with
          | ret r =>
            obtain ⟨rfl, h', tk, L, es, ep, t, rfl, R, got, kept⟩ := hr2
            repeat (any_goals (first | assumption | wp_step))
            exact k _ _ _ _ _ _ R got kept
          | _ => exact hr2.elim
    | _ => exact hr.elim
end
section
variable {X : Cx}
/-- set(xs), a list or a tuple -/
def rSetOfA (K : PySem.W.Frag) (P : Program) (w : World) : List V → Hp → VK → Prop := fun xs H Q => ∃ (l : Addr) (ks : List (Addr × List Int)), xs = [V.ref l] ∧ SqT K H l (ks.map fun p => V.ref p.1) ∧ (∀ p ∈ ks, SqT K H p.1 (p.2.map V.int)) ∧ ks.length < 64 ∧
  ∀ a L, H a = none → (∀ p ∈ L, p ∈ ks) → (∀ p ∈ ks, p.2 ∈ L.map (·.2)) → Q (.ref a) (upd H a (SetTO P w a L))
theorem cr_setOfA (hc : X.calm = true) (hu : X.A.units + 64 < cLine) : CallR X (.type "set") (rSetOfA X.K X.prog X.w) := by
  rintro pins s σ H _ us Q I r ⟨l, ks, rfl, hl, hk, few, q⟩
  rw [Vals.ref1 r]
  obtain ⟨its, rv, pl, _⟩ := I.tuple hl
  have pl' : s.heap.IsTuple l its.toArray := pl
  refine set_of_tuple (P := X.prog) (w := X.w) ks (I.ok.hd hc) pl' (by simpa using refs_of_vals rv) (fun p hp => I.isT (hk p hp)) few (by omega) fun h' tk L es ep t R g1 k => ?_
  have hn : H s.heap.objs.size = none := I.hok.fresh (Nat.le_refl _)
  exact ⟨.ref s.heap.objs.size, upd H s.heap.objs.size (SetTO X.prog X.w s.heap.objs.size L), I.laid (t' := tk) k (Nat.le_refl _) (setTO_new R.t0), rfl, q _ L hn (fun p hp => List.mem_of_mem_take (g1.sub p hp)) fun p hp => g1.all p (by rw [List.take_length]; exact hp)⟩
end
end M

set_option Elab.async false
set_option linter.all false
set_option maxRecDepth 100000
set_option maxHeartbeats 4000000
namespace M
open PySem PySem.Spec PyProof.Rows L2
section
variable {g : Gd} {X : Cx} {Wx : WX} {e a b c : Expr} {pos : Pos} {tg : Expr}
def srcT (w : W) (h : MH) : Option (List W) := match w with
  | .tup xs => some xs
  | w => litems w h
theorem set_any {ρ : Nat → Addr} {h : MH} {H : Hp} {w : W} {v : V} {ys : List W} {ls : List (List Int)} (P : Program) (wd : World) (S : Sim g ρ h H) (r : RelW g ρ h.n H w v) (e1 : srcT w h = some ys) (e2 : asTs ys = some ls) (few : ls.length < 64) :
    ∃ (l : Addr) (ks : List (Addr × List Int)), v = .ref l ∧ (∀ p ∈ ks, H p.1 = some (.tup (p.2.map V.int))) ∧ ks.map (·.2) = ls ∧ ∀ Q' : VK, (∀ (b : Addr) (L : List (Addr × List Int)), H b = none → (∀ p ∈ L, p ∈ ks) → (∀ p ∈ ks, p.2 ∈ L.map (·.2)) → Q' (.ref b) (upd H b (SetTO P wd b L))) →
      (rSetOfT g.K P wd [.ref l] H Q' ∨ rSetOfA g.K P wd [.ref l] H Q') := by
  have two : (∃ l us, v = .ref l ∧ SqL g.K H l us ∧ RelWs g ρ h.n H ys us) ∨ (∃ l us, v = .ref l ∧ SqT g.K H l us ∧ RelWs g ρ h.n H ys us) := by
    cases w with
    | tup xs =>
      simp only [RelW] at r
      obtain ⟨l, us, rfl, h1, h2⟩ := r
      have : xs = ys := Option.some.inj e1
      subst this
      exact .inr ⟨l, us, rfl, SqT.of h1, h2⟩
    | _ =>
      obtain ⟨l, us, q1, q2, q3⟩ := litems_ok S r e1
      exact .inl ⟨l, us, q1, q2, q3⟩
  rcases two with ⟨l, us, rfl, hs, rr⟩ | ⟨l, us, rfl, hs, rr⟩
  · obtain ⟨ks, rfl, h2, h3⟩ := asTs_ok e2 rr
    have f' : ks.length < 64 := by rw [← h3, List.length_map] at few; exact few
    exact ⟨l, ks, rfl, h2, h3, fun Q' k => .inl ⟨l, ks, rfl, hs, fun p hp => SqT.of (h2 p hp), f', k⟩⟩
  · obtain ⟨ks, rfl, h2, h3⟩ := asTs_ok e2 rr
    have f' : ks.length < 64 := by rw [← h3, List.length_map] at few; exact few
    exact ⟨l, ks, rfl, h2, h3, fun Q' k => .inr ⟨l, ks, rfl, hs, fun p hp => SqT.of (h2 p hp), f', k⟩⟩
theorem mem_same {ks L : List (Addr × List Int)} {ls : List (List Int)} (h3 : ks.map (·.2) = ls) (hsub : ∀ p ∈ L, p ∈ ks) (hall : ∀ p ∈ ks, p.2 ∈ L.map (·.2)) (x : List Int) : x ∈ L.map (·.2) ↔ x ∈ ls := by
  rw [← h3]
  constructor
  · intro hx
    obtain ⟨p, hp, e⟩ := List.mem_map.mp hx
    exact List.mem_map.mpr ⟨p, hsub p hp, e⟩
  · intro hx
    obtain ⟨p, hp, e⟩ := List.mem_map.mp hx
    rw [← e]
    exact hall p hp
def fLenSetA (xs : List W) (h : MH) : Res W := match xs with
  | [w] => (match srcT w h with
    | some ys => (match asTs ys with
      | some ls => (match Nat.blt ls.length 64 with
        | true => .ok (.int (((dd ls).length : Nat) : Int)) h
        | false => .stuck)
      | none => .stuck)
    | none => .stuck)
  | _ => .stuck
theorem m_lenSetA (hK : X.K = g.K) (hcalm : X.calm = true) {k : Nat} (hr : Room k X.A) {p p2 pos2 : Pos} {ra : Dn (List W)} (hg : Gl X "len") (hm : X.mg "len" = none) (hg2 : Gl X "set") (hm2 : X.mg "set" = none) (ha : PA X [e] (tA g Wx ra))
    (he : starEach [e] X.env = (false, eval e X.env) :: starEach [] X.env := by rfl) :
    PE X (.Call (.Name "len" p) [.Call (.Name "set" p2) [e] [] pos2] [] pos) (tE g Wx (dOne fLenSetA ra)) := by
  have inner : PE X (.Call (.Name "set" p2) [e] [] pos2) _ := pe_callTy ((cr_setOfT hcalm hr.units).or (cr_setOfA hcalm hr.units)) hg2 hm2 (by decide +kernel) ha (by decide) (by decide) he
  have outer : PE X (.Call (.Name "len" p) [.Call (.Name "set" p2) [e] [] pos2] [] pos) _ := pe_callB cr_lenSet hg hm (by decide +kernel) (pa_cons inner pa_nil rfl) (by decide) (by decide)
  refine weak outer fun σ H Q q => ?_
  refine one_reads (R1 := RelWs g) q fun ρ h H x vx S r f => ?_
  unfold fLenSetA at f
  split at f
  · rename_i w
    split at f
    · rename_i ys e1
      split at f
      · rename_i ls e2
        split at f
        · rename_i e3
          obtain ⟨v, rfl, r1⟩ := one_of r
          obtain ⟨l, ks, rfl, h2, h3, fin⟩ := set_any X.prog X.w S r1 e1 e2 (blt_ok e3)
          rw [hK]
          refine fin _ fun b L hb hsub hall => ⟨b, L, rfl, upd_same, fun nd => ?_⟩
          have len : L.length = (dd ls).length := by
            have := nodup_len (m := ls) nd (mem_same h3 hsub hall)
            rwa [List.length_map] at this
          rw [len]
          exact f ρ _ _ (Ext.out S hb) (Sim.out S hb) (by simp only [RelW])
        · exact f.elim
      · exact f.elim
    · exact f.elim
  · exact f.elim
def fSortSetA (xs : List W) (h : MH) : Res W := match xs with
  | [w] => (match srcT w h with
    | some ys => (match asTs ys with
      | some ls => (match Nat.blt ls.length 64 && (Nat.blt 0 (lenB ls) && bdB (maxB ls) (lenB ls) ls) with
        | true => .ok (.ref h.n) (h.push (.lst ((msort (ltC (maxB ls)) (dd ls)).map tupI)))
        | false => .stuck)
      | none => .stuck)
    | none => .stuck)
  | _ => .stuck
theorem m_sortSetA (hK : X.K = g.K) (hcalm : X.calm = true) {k : Nat} (hr : Room k X.A) {p p2 pos2 : Pos} {ra : Dn (List W)} (hg : Gl X "sorted") (hm : X.mg "sorted" = none) (hg2 : Gl X "set") (hm2 : X.mg "set" = none) (ha : PA X [e] (tA g Wx ra))
    (he : starEach [e] X.env = (false, eval e X.env) :: starEach [] X.env := by rfl) :
    PE X (.Call (.Name "sorted" p) [.Call (.Name "set" p2) [e] [] pos2] [] pos) (tE g Wx (dOne fSortSetA ra)) := by
  have inner : PE X (.Call (.Name "set" p2) [e] [] pos2) _ := pe_callTy ((cr_setOfT hcalm hr.units).or (cr_setOfA hcalm hr.units)) hg2 hm2 (by decide +kernel) ha (by decide) (by decide) he
  have outer : PE X (.Call (.Name "sorted" p) [.Call (.Name "set" p2) [e] [] pos2] [] pos) _ := pe_callB (cr_sortedT hcalm) hg hm (by decide +kernel) (pa_cons inner pa_nil rfl) (by decide) (by decide)
  refine weak outer fun σ H Q q => ?_
  refine one_reads (R1 := RelWs g) q fun ρ h H x vx S r f => ?_
  unfold fSortSetA at f
  split at f
  · rename_i w
    split at f
    · rename_i ys e1
      split at f
      · rename_i ls e2
        split at f
        · rename_i e3
          obtain ⟨c1, c2⟩ := Bool.and_eq_true_iff.mp e3
          obtain ⟨c2, c3⟩ := Bool.and_eq_true_iff.mp c2
          have bd := bdB_ok c3
          obtain ⟨v, rfl, r1⟩ := one_of r
          obtain ⟨l, ks, rfl, h2, h3, fin⟩ := set_any X.prog X.w S r1 e1 e2 (blt_ok c1)
          rw [hK]
          refine fin _ fun b L hb hsub hall => ?_
          have keepT : ∀ p ∈ L, (upd H b (SetTO X.prog X.w b L)) p.1 = some (.tup (p.2.map V.int)) := fun p hp => by
            have := h2 p (hsub p hp)
            rw [upd_ne (ne_of_none this hb)]
            exact this
          have inls : ∀ p ∈ L, p.2 ∈ ls := fun p hp => by rw [← h3]; exact List.mem_map.mpr ⟨p, hsub p hp, rfl⟩
          refine ⟨b, L, lenB ls, maxB ls, rfl, upd_same, fun p hp => SqT.of (keepT p hp), blt_ok c2, fun p hp => bd p.2 (inls p hp), fun L' t pm nd _ pw ht => ?_⟩
          have X1 : Ext ρ h.n H ρ h.n (upd H b (SetTO X.prog X.w b L)) := Ext.out S hb
          have S1 : Sim g ρ h (upd H b (SetTO X.prog X.w b L)) := Sim.out S hb
          have same : L'.map (·.2) = msort (ltC (maxB ls)) (dd ls) := by
            obtain ⟨s1, s2⟩ := msortF_ok (swoC (maxB ls)) 20 (dd ls)
            have mem : ∀ x, x ∈ L'.map (·.2) ↔ x ∈ dd ls := fun x => by
              rw [dd_mem, ← mem_same h3 hsub hall]
              exact (pm.map (·.2)).mem_iff
            have P : (L'.map (·.2)).Perm (msort (ltC (maxB ls)) (dd ls)) := ((List.perm_ext_iff_of_nodup nd dd_nodup).mpr mem).trans s2.perm.symm
            have bnd : ∀ x ∈ L'.map (·.2), x.length = lenB ls ∧ TS.Bd (maxB ls) x := fun x hx => bd x (dd_mem.mp ((mem x).mp hx))
            refine List.Perm.eq_of_pairwise (le := fun x y => TS.code (maxB ls) x ≤ TS.code (maxB ls) y) (fun x y hx hy l1 l2 => ?_) (List.pairwise_map.mpr pw) (s1.imp fun {x y} z => ?_) P
            · have b1 := bnd x hx
              have b2 := bnd y (P.mem_iff.mpr hy)
              exact code_inj (b1.1.trans b2.1.symm) b1.2 b2.2 (Int.le_antisymm l1 l2)
            · have := of_decide_eq_false z
              omega
          rw [← same] at f
          have rel : RelWs g ρ h.n (upd H b (SetTO X.prog X.w b L)) ((L'.map (·.2)).map tupI) (L'.map fun q => V.ref q.1) := by
            have := tupI_rel (g := g) (ρ := ρ) (n := h.n) L' fun q hq => keepT q (pm.mem_iff.mp hq)
            rw [List.map_map]
            exact this
          exact (Fin.later X1 f).push S1 rel ht
        · exact f.elim
      · exact f.elim
    · exact f.elim
  · exact f.elim
end
end M

set_option Elab.async false
set_option linter.all false
set_option maxRecDepth 100000
set_option maxHeartbeats 4000000
namespace M
open PySem PySem.Spec PyProof.Rows L2
open PySem.W (alike alikeAll dataLt dataLe AllAlike Sortable EachIs SortsAt sortingHeap)
/-! ### sorted(t), t a tuple of data -/
section
variable {prog : Program} {w : World} {A : Around} {E : Value → Shared → Prop} {s : Shared} {β : Type} {vs : List Value} {bs : List β} {enc : β → PyData} {R : Value → β → Prop}
/-- the new list of a tuple's items -/
def gathered (h : Heap) (items : Array Value) : Heap := (h.push { cls := .type "list", data := .seq ([] : List Value).toArray }).update h.objs.size (Obj.mapSeq (· ++ items))
theorem gathered_old {h : Heap} {items : Array Value} {b : Addr} {o : Obj} (e : h.get? b = some o) : (gathered h items).get? b = some o :=
  (Heap.get?_update_other _ _ (Nat.ne_of_gt (Heap.lt_size e))).trans (Heap.get?_push_of_some _ e)
theorem gathered_size {h : Heap} {items : Array Value} : (gathered h items).objs.size = h.objs.size + 1 := by
  unfold gathered
  rw [Heap.size_update, Heap.size_push]
theorem collect_tuple {Q : List Value → Shared → Prop} {l : Addr} {o : Obj} {items : Array Value} {n : Nat} (ho : s.heap.get? l = some o) (hc : o.cls = .type "tuple") (hd : o.data = .seq items n) (len : items.size ≤ sizeLine)
    (k : Q items.toList { s with heap := gathered s.heap items }) : wpAny (model prog w) A (collect (.ref l)) Q E s := by
  have at0 : (s.heap.push { cls := .type "list", data := .seq ([] : List Value).toArray }).get? s.heap.objs.size = some { cls := .type "list", data := .seq #[] 0 } := Heap.get?_push_size _ rfl
  have at1 := Heap.get?_update_self (Obj.mapSeq (· ++ items)) at0 rfl
  have rest : wpAny (model prog w) A (do
      match (← load s.heap.objs.size).data with
        | Data.seq xs _ => pure xs.toList
        | _ => unsupported "internal:collect") Q E { s with heap := gathered s.heap items } := by
    refine wpAny_bind (wpAny_load at1 (wpAny_pure ?_))
    show Q ((#[] : Array Value) ++ items).toList _
    rw [show ((#[] : Array Value) ++ items).toList = items.toList from by simp]
    exact k
  unfold collect
  refine wpAny_bind (wpAny_runValue (codeAny_builtin F.entry_proto_collect ?_))
  rw [Around.under_plainId F.plain_proto_collect _]
  show wpAny _ A.in1 (newList [] >>= fun z => again (.builtin "list.__iadd__" ⟨[z, .ref l], []⟩)) _ _ s
  refine wpAny_bind (wpAny_newObj_type (wpAny_pure ⟨plainId_quiet F.plain_list_iadd _, codeAny_builtin F.entry_list_iadd ?_⟩))
  rw [Around.under_plainId F.plain_list_iadd _]
  show wpAny _ A.in1 (Builtin.List.listExtendWith (.ref s.heap.objs.size) (.ref l) (.ref s.heap.objs.size)) _ _ _
  refine wpAny_mono (wpAny_extend_seq (hsz := len) (A := A) (R := fun r s1 => r = .ok (.ret (.ref s.heap.objs.size)) ∧ s1 = { s with heap := gathered s.heap items }) (s := { s with heap := s.heap.push { cls := .type "list", data := .seq ([] : List Value).toArray } }) _ l _ 0 (.inr rfl) at0 (Heap.get?_push_of_some _ ho) hc hd ⟨rfl, rfl⟩)
    (fun fin s1 q => ?_) fun _ _ q => absurd q.1 (by simp)
  cases fin with
  | done f =>
    obtain ⟨e, rfl⟩ := q
    cases e
    exact rest
  | again c => exact ⟨q.1, codeAny_mono q.2 fun r s2 ⟨e1, e2⟩ => by subst e1; subst e2; exact rest⟩
theorem sorted_tuple {l : Addr} {Q : Value → Shared → Prop} (hl : s.heap.IsTuple l vs.toArray) (e : EachIs R vs bs) (er : EachIs (fun v b => ∃ as, PySem.Reads s.heap v (enc b) as) vs bs) (al : AllAlike (bs.map enc)) (so : Sortable (bs.map enc)) (len : bs.length ≤ sizeLine)
    (hu : ∀ b, b ∈ bs → A.units + 2 + (enc b).depth < cLine)
    (k : ∀ (h' : Heap) (p : Addr) (out : List Value) (c : Nat), (∀ b o, s.heap.get? b = some o → h'.get? b = some o) → s.heap.objs.size ≤ p → h'.get? p = some (seqObj "list" out.toArray c) → out.length = bs.length → EachIs R out (bs.mergeSort (dataLe false enc)) → Q (.ref p) { s with heap := h' }) :
    wpAny (model prog w) A (call (.builtin "sorted") [.ref l]) Q E s := by
  have lv : vs.length ≤ sizeLine := by rw [e.length]; exact len
  obtain ⟨o, ho, hc, n, hd⟩ := hl
  refine PySem.Calls.call_function_entry PyProof.Rows.kind_sorted PyProof.Rows.plain_sorted PyProof.Rows.entry_sorted (PyProof.Rows.args_sorted1 _) ?_
  unfold Builtin.«sorted»
  refine wpAny_bind (m := checkCount "sorted" 1 1 _) (wpAny_pure ?_)
  refine wpAny_bind (collect_tuple ho hc hd (by simpa using lv) ?_)
  rw [show vs.toArray.toList = vs from rfl]
  have keep : ∀ b o, s.heap.get? b = some o → (gathered s.heap vs.toArray).get? b = some o := fun b o e => gathered_old e
  have size1 : (gathered s.heap vs.toArray).objs.size = s.heap.objs.size + 1 := gathered_size
  generalize gathered s.heap vs.toArray = h1 at keep size1 ⊢
  refine wpAny_bind (wpAny_newList ?_ lv)
  have at1 : (h1.push (seqObj "list" vs.toArray 0)).get? h1.objs.size = some (seqObj "list" vs.toArray 0) := Heap.get?_push_size _ rfl
  have below : ∀ {b o}, s.heap.get? b = some o → b < h1.objs.size := fun e => Heap.lt_size (keep _ _ e)
  have old : ∀ b o, s.heap.get? b = some o → (sortingHeap (h1.push (seqObj "list" vs.toArray 0)) h1.objs.size vs).get? b = some o := fun b o e =>
    PySem.W.sortingHeap_old (Nat.ne_of_lt (below e)) (Heap.get?_push_of_some _ (keep _ _ e))
  have er' : EachIs (fun v b => ∃ as, PySem.Reads (sortingHeap (h1.push (seqObj "list" vs.toArray 0)) h1.objs.size vs) v (enc b) as) vs bs := er.mono fun _ _ ⟨as, r⟩ => ⟨as, PyProof.Rows.Reads.keeps old r⟩
  have sorts : SortsAt prog w A.in1.in1 { s with heap := sortingHeap (h1.push (seqObj "list" vs.toArray 0)) h1.objs.size vs } (PySem.W.dataKind (sortingHeap (h1.push (seqObj "list" vs.toArray 0)) h1.objs.size vs) (bs.map enc)) vs :=
    PySem.W.SortsAt.data (s := { s with heap := sortingHeap (h1.push (seqObj "list" vs.toArray 0)) h1.objs.size vs }) (PySem.W.each_map (R := fun v d => ∃ as, PySem.Reads (sortingHeap (h1.push (seqObj "list" vs.toArray 0)) h1.objs.size vs) v d as) enc er') al so (PySem.W.bound_map hu)
  show wpAny (model prog w) A.in1 _ _ _ { s with heap := h1.push (seqObj "list" vs.toArray 0) }
  refine wpAny_bind (wpAny_holding (wpAny_call_entry PyProof.Rows.slot_list_sort ⟨_, at1, rfl⟩ PyProof.Rows.entry_list_sort
    (PySem.W.list_sort_vals (s := { s with heap := h1.push (seqObj "list" vs.toArray 0) }) at1 sorts lv ⟨_, rfl, ?_⟩) (PyProof.Rows.args_list_sort _)))
  obtain ⟨c, hc'⟩ := PyProof.Rows.sortedHeap_at (vs := vs) (out := (PySem.W.sortVals (PySem.W.dataKind (sortingHeap (h1.push (seqObj "list" vs.toArray 0)) h1.objs.size vs) (bs.map enc)) false vs vs).toArray) at1
  refine wpAny_pure ⟨_, rfl, k _ h1.objs.size _ c (fun b o e => ?_) ?_ hc' (by rw [PySem.W.sortVals_length false rfl]; exact e.length) (PySem.W.sortVals_data false e er' al)⟩
  · have lt := below e
    rw [PyProof.Rows.sortedHeap_old (Nat.ne_of_lt lt) (by rw [size_push']; exact Nat.lt_succ_of_lt lt)]
    exact Heap.get?_push_of_some _ (keep _ _ e)
  · rw [size1]; exact Nat.le_succ _
end
end M

set_option Elab.async false
set_option linter.all false
set_option maxRecDepth 100000
set_option maxHeartbeats 4000000
namespace M
open PySem PySem.Spec PyProof.Rows L2
open PySem.W (alike alikeAll dataLt dataLe AllAlike Sortable EachIs)
def rSortedDT (K : PySem.W.Frag) : List V → Hp → VK → Prop := fun vs H Q => ∃ (a : Addr) (xs : List V) (ds : List PyData), vs = [V.ref a] ∧ SqT K H a xs ∧ DpAll K H xs ds ∧ AllAlike ds ∧ Sortable ds ∧ (∀ d ∈ ds, d.depth ≤ 60) ∧
  ∀ p, H p = none → Q (.ref p) (upd H p (.lst (((xs.zip ds).mergeSort (dataLe false Prod.snd)).map Prod.fst)))
section
variable {X : Cx}
theorem cr_sortedDT {k : Nat} (hr : Room k X.A) : CallR X (.builtin "sorted") (rSortedDT X.K) := by
  rintro pins s σ H _ us Q I r ⟨a, xs, ds, rfl, hs, hd, al, so, dep, q⟩
  obtain ⟨its, rv, pl, hz⟩ := I.tuple hs
  have pl' : s.heap.IsTuple a its.toArray := pl
  rw [Vals.ref1 r]
  have lens := dp_len hd
  have zl : (xs.zip ds).length = xs.length := by rw [List.length_zip]; omega
  have snds : (xs.zip ds).map Prod.snd = ds := by rw [List.map_snd_zip]; omega
  have both : EachIs (fun u (b : V × PyData) => RelV b.1 u ∧ ∃ as, PySem.Reads s.heap u b.2 as) its (xs.zip ds) := each_zip rv lens fun i x u d e1 e2 e3 rx => Dp.reads I d x u (dp_at hd e1 e3) rx
  refine sorted_tuple (R := fun u (b : V × PyData) => RelV b.1 u) (enc := Prod.snd) (bs := xs.zip ds) pl' (both.mono fun _ _ h => h.1) (both.mono fun _ _ h => h.2) (by rw [snds]; exact al) (by rw [snds]; exact so) (by rw [zl]; exact hz) (fun b hb => ?_) fun h' p out c keep hp at1 len eo => ?_
  · have := dep b.2 (by rw [← snds]; exact List.mem_map.mpr ⟨b, hb, rfl⟩)
    have := hr.units
    omega
  · have hn : H p = none := I.hok.fresh hp
    have v2 := vals_each eo
    refine ⟨.ref p, _, I.laid (t' := s.toks) (o := .lst (((xs.zip ds).mergeSort (dataLe false Prod.snd)).map Prod.fst)) keep hp ⟨?_, out, c, v2, at1⟩, rfl, q p hn⟩
    rw [v2.length, len, zl]
    exact hz
end
section
variable {g : Gd} {X : Cx} {Wx : WX} {e a b c : Expr} {pos : Pos} {tg : Expr} {ρ : Nat → Addr} {n : Nat} {H : Hp}
/-- the sorted list, in the small heap -/
theorem sort_core {h : MH} {ys : List W} {us : List V} {ds : List PyData} (S : Sim g ρ h H) (rr : RelWs g ρ h.n H ys us) (e2 : mapD (toD 60 h) ys = some ds) (ok : sortOk ds = true) :
    DpAll g.K H us ds ∧ AllAlike ds ∧ Sortable ds ∧ (∀ d ∈ ds, d.depth ≤ 60) ∧ RelWs g ρ h.n H ((PySem.W.mergeSortF leP (ys.zip ds).length (ys.zip ds)).map Prod.fst) (((us.zip ds).mergeSort (dataLe false Prod.snd)).map Prod.fst) := by
  obtain ⟨d1, _, d3⟩ := mapD_ok S (fun w v d q rw => toD_ok S 60 w v d q rw) ys us ds e2 rr
  unfold sortOk at ok
  obtain ⟨o1, ok⟩ := Bool.and_eq_true_iff.mp ok
  obtain ⟨o2, o3⟩ := Bool.and_eq_true_iff.mp ok
  have al : AllAlike ds := fun d hd d' hd' => List.all_eq_true.mp (List.all_eq_true.mp o2 d hd) d' hd'
  have ne : ∀ d ∈ ds, nestI d = true := fun d hd => List.all_eq_true.mp o1 d hd
  refine ⟨d1, al, ?_, fun d hd => ?_, ?_⟩
  · rcases Bool.or_eq_true_iff.mp o3 with q | q
    · refine .inl fun d hd => ?_
      have := List.all_eq_true.mp q d hd
      unfold isTup1 at this
      split at this
      · exact ⟨_, _, rfl⟩
      · cases this
    · refine .inr fun d hd => ?_
      have := List.all_eq_true.mp q d hd
      unfold isIntD at this
      split at this
      · exact ⟨by simp, by simp⟩
      · cases this
  · have : ∀ (l : List PyData) (d : PyData), d ∈ l → d.depth ≤ PyData.depthAll l := by
      intro l d
      induction l with
      | nil => simp
      | cons x l ih =>
        intro hm
        simp only [PyData.depthAll]
        rcases List.mem_cons.mp hm with z | z
        · rw [z]; omega
        · have := ih z; omega
    exact Nat.le_trans (this ds d hd) d3
  · have ly : ys.length = ds.length := by rw [← rr.len]; exact dp_len d1
    obtain ⟨T, t1, t2, t3⟩ := zip3 rr ly
    obtain ⟨T', m1, m2, m3⟩ := map3 (r := leP) (s := dataLe false Prod.snd) T fun a ha b hb => by
      show (!ltD b.2.2 a.2.2) = (!dataLt b.2.2 a.2.2)
      rw [lt_eq _ _ (ne _ (t3 b hb).2) (al _ (t3 b hb).2 _ (t3 a ha).2)]
    rw [t1] at m2
    rw [t2] at m3
    rw [← PySem.W.mergeSortF_eq leP (ys.zip ds).length (ys.zip ds) (Nat.le_refl _), m2, m3]
    exact relMap fun t ht => (t3 t (m1 t ht)).1
def fSortDT (xs : List W) (h : MH) : Res W := match xs with
  | [.tup ys] => (match mapD (toD 60 h) ys with
    | some ds => (match sortOk ds with
      | true => .ok (.ref h.n) (h.push (.lst ((PySem.W.mergeSortF leP (ys.zip ds).length (ys.zip ds)).map Prod.fst)))
      | false => .stuck)
    | none => .stuck)
  | _ => .stuck
theorem oSortDT : CallS g (rSortedDT g.K) fSortDT := by
  intro ρ h H xs vs Q E S r f
  unfold fSortDT at f
  split at f
  · rename_i ys
    obtain ⟨v, rfl, r1⟩ := one_of r
    simp only [RelW] at r1
    obtain ⟨a, us, rfl, h1, rr⟩ := r1
    split at f
    · rename_i ds e2
      split at f
      · rename_i ok
        obtain ⟨d1, d2, d3, d4, d5⟩ := sort_core S rr e2 ok
        exact ⟨a, us, ds, rfl, SqT.of h1, d1, d2, d3, d4, fun p hp => f.push S d5 hp⟩
      · exact f.elim
    · exact f.elim
  · exact f.elim
def fSortC := orElse_ fSortB fSortDT
theorem x_sortC (hK : X.K = g.K) {k : Nat} (hc : X.calm = true) (hr : Room k X.A) {p : Pos} {es : List Expr} {ra : Dn (List W)} (hg : Gl X "sorted") (hm : X.mg "sorted" = none) (ha : PA X (e :: es) (tA g Wx ra)) (he : starEach (e :: es) X.env = (false, eval e X.env) :: starEach es X.env := by rfl) (hpl : (backTo pos (starEach es X.env)).any (·.1) = false := by rfl) :
    PE X (.Call (.Name "sorted" p) (e :: es) [] pos) (tE g Wx (dOne fSortC ra)) :=
  m_callB ((((cr_sortedI.or cr_sortedPO).or (cr_sortedD hr)).or (call_sortedDI hc)).or (cr_sortedDT hr)) (by rw [hK]; exact CallS.or_ (CallS.or_ (CallS.or_ (by rw [fSortM_eq]; exact oSorted) oSortD) oSortDK) oSortDT) hg hm (by decide +kernel) ha (by decide) (by decide) he hpl
end
end M

set_option Elab.async false
set_option linter.all false
set_option maxRecDepth 100000
set_option maxHeartbeats 4000000
namespace M
open PySem PySem.Spec PyProof.Rows L2
/-! # Lists made of ranges, without running them -/
theorem lcGo_rng {b : W → WS → Option WS} {t : Dn Bool} {e : Dn W} {ws : WS} {lo : Int} {n : Nat} {f : Nat → W} {h : MH} (hb : ∀ i, i < n → ∃ ws', b (.int (lo + i)) ws = some ws' ∧ t ws' h = .ok true h ∧ e ws' h = .ok (f i) h) :
    ∀ (j i fuel : Nat) (acc : List W), i + j = n → j < fuel → dLcGo (nRng lo n) b t e ws fuel i acc h = .ok (((List.range' i j).map f).reverse ++ acc) h
  | 0, i, fuel + 1, acc, hi, _ => by
    have q : Nat.blt i n = false := by
      rw [show n = i by omega]
      cases z : Nat.blt i i with
      | false => rfl
      | true => exact absurd (blt_ok z) (Nat.lt_irrefl _)
    unfold dLcGo nRng
    simp [q]
  | j + 1, i, fuel + 1, acc, hi, hf => by
    have q : Nat.blt i n = true := Nat.ble_eq.mpr (by omega : i + 1 ≤ n)
    obtain ⟨ws', e1, e2, e3⟩ := hb i (by omega)
    have ih := lcGo_rng hb j (i + 1) fuel (f i :: acc) (by omega) (by omega)
    unfold dLcGo
    have q2 : nRng lo n i h = some (some (.int (lo + i))) := by unfold nRng; simp [q]
    rw [q2]
    simp only [e1, e2, e3]
    rw [ih, List.range'_succ]
    simp
theorem lc_rng {b : W → WS → Option WS} {e : Dn W} {ws : WS} {vs : List Nat} {m : Dn Nx} {lo : Int} {n : Nat} {f : Nat → W} {h h1 : MH} (hm : m ws h = .ok (nRng lo n) h1) (hn : n ≤ 1000000)
    (hb : ∀ i, i < n → ∃ ws', b (.int (lo + i)) (wipeW ws vs) = some ws' ∧ e ws' h1 = .ok (f i) h1) :
    dLc m vs b (dK true) e ws h = .ok (.ref h1.n) (h1.push (.lst ((List.range n).map f))) := by
  unfold dLc
  rw [hm]
  dsimp only [Res.bnd]
  rw [lcGo_rng (f := f) (fun i hi => by obtain ⟨ws', a, b⟩ := hb i hi; exact ⟨ws', a, rfl, b⟩) n 0 LOOPS [] (by omega) (by unfold LOOPS; omega)]
  dsimp only
  unfold fRevL
  rw [List.append_nil, List.reverse_reverse, ← List.range_eq_range']
  unfold fLst
  have : lenOk ((List.range n).map f) = true := Nat.ble_eq.mpr (by rw [List.length_map, List.length_range]; omega)
  rw [this]
/-- a pair -/
abbrev Pr (x y : Int) : W := .tup [.int x, .int y]
theorem lexLt2 (a b c d : Int) : HT.lexLt [a, b] [c, d] = decide (a < c ∨ (a = c ∧ b < d)) := by
  rw [HT.lexLt_cons, HT.lexLt_cons, HT.lexLt_nil_nil]
  by_cases h1 : a = c
  · rw [if_pos h1]
    by_cases h2 : b = d
    · rw [if_pos h2]; exact (decide_eq_false (by omega)).symm
    · rw [if_neg h2]; exact decide_eq_decide.mpr (by omega)
  · rw [if_neg h1]; exact decide_eq_decide.mpr (by omega)
theorem ltPr (a b c d : Int) (h : MH) : fLtA (Pr a b) (Pr c d) h = .ok (.bl (decide (a < c ∨ (a = c ∧ b < d)))) h := by
  rw [← lexLt2]; rfl
theorem ix_lst {k : Nat} {h : MH} {xs : List W} {i : Nat} {w : W} (hg : h.get k = some (.lst xs)) (e : xs[i]? = some w) : fIx (.ref k) (.int i) h = .ok w h := by
  have lt : i < xs.length := by
    rcases Nat.lt_or_ge i xs.length with q | q
    · exact q
    · rw [List.getElem?_eq_none q] at e; cases e
  refine fIx_ref hg ?_
  unfold atI
  rw [ixN_ok (by omega) (by omega)]
  simpa using e
end M

set_option Elab.async false
set_option linter.all false
set_option maxRecDepth 100000
set_option maxHeartbeats 4000000
namespace M
open PySem PySem.Spec PyProof.Rows L2
/-! # Evaluation by rewriting -/
def SR.fin : SR → Res W
  | .rt w h => .ok w h
  | .nx _ h => .ok .non h
  | .exc _ c fs h => .exc c fs h
  | _ => .stuck
def SR.seq (r : SR) (b : DS) : SR := match r with
  | .nx ws h => b ws h
  | r => r
theorem bnd_congr {α β : Type} {m m' : Res α} {f : α → MH → Res β} (e : m = m') : m.bnd f = m'.bnd f := by rw [e]
theorem bndS_congr {α : Type} {m m' : Res α} {ws : WS} {f : α → MH → SR} (e : m = m') : m.bndS ws f = m'.bndS ws f := by rw [e]
theorem seq_congr {m m' : SR} {b : DS} (e : m = m') : m.seq b = m'.seq b := by rw [e]
theorem bnd_ok {α β : Type} {a : α} {h : MH} {f : α → MH → Res β} : (Res.ok a h).bnd f = f a h := rfl
theorem bnd_exc {α β : Type} {c : Nat} {fs : List (Str × W)} {h : MH} {f : α → MH → Res β} : (Res.exc c fs h : Res α).bnd f = .exc c fs h := rfl
theorem bndS_ok {α : Type} {a : α} {h : MH} {ws : WS} {f : α → MH → SR} : (Res.ok a h).bndS ws f = f a h := rfl
theorem bndS_exc {α : Type} {c : Nat} {fs : List (Str × W)} {h : MH} {ws : WS} {f : α → MH → SR} : (Res.exc c fs h : Res α).bndS ws f = .exc ws c fs h := rfl
theorem seq_nx {ws : WS} {h : MH} {b : DS} : (SR.nx ws h).seq b = b ws h := rfl
theorem seq_rt {w : W} {h : MH} {b : DS} : (SR.rt w h).seq b = .rt w h := rfl
theorem seq_exc {ws : WS} {c : Nat} {fs : List (Str × W)} {h : MH} {b : DS} : (SR.exc ws c fs h).seq b = .exc ws c fs h := rfl
theorem fin_rt {w : W} {h : MH} : (SR.rt w h).fin = .ok w h := rfl
theorem fin_nx {ws : WS} {h : MH} : (SR.nx ws h).fin = .ok .non h := rfl
theorem fin_exc {ws : WS} {c : Nat} {fs : List (Str × W)} {h : MH} : (SR.exc ws c fs h).fin = .exc c fs h := rfl
section
variable {ws : WS} {h : MH}
theorem e_seq {a b : DS} : dSeq a b ws h = (a ws h).seq b := rfl
theorem e_next : dNext ws h = .nx ws h := rfl
theorem e_ret {m : Dn W} : dRet m ws h = (m ws h).bndS ws fun w h => .rt w h := rfl
theorem e_ifS {c : Dn Bool} {a b : DS} : dIfS c a b ws h = (c ws h).bndS ws fun k h => match k with | true => a ws h | false => b ws h := rfl
theorem e_asg {m : Dn W} {f : W → WS → Option WS} : dAsg m f ws h = (m ws h).bndS ws fun w h => match f w ws with | some ws' => .nx ws' h | none => .stuck := rfl
theorem e_asgA {m : Dn W} {n : Nat} {f : List W → WS → Option WS} : dAsgA m n f ws h = (m ws h).bndS ws fun w h => match items w h with
  | some xs => (match Nat.beq xs.length n with
    | true => (match f xs ws with | some ws' => .nx ws' h | none => .stuck)
    | false => .stuck)
  | none => .stuck := rfl
theorem e_par {i j : Nat} {m : Dn (List W)} : dPar i j m ws h = (m ws h).bndS ws fun xs h => match xs with | [x, y] => .nx ((ws.set i (some x)).set j (some y)) h | _ => .stuck := rfl
theorem e_raise {c : Nat} : dRaise0 c ws h = .exc ws c [] h := rfl
theorem e_one {α β : Type} {f : α → MH → Res β} {m : Dn α} : dOne f m ws h = (m ws h).bnd f := rfl
theorem e_op {f : W → W → MH → Res W} {a b : Dn W} : dOp f a b ws h = (a ws h).bnd fun x h => (b ws h).bnd fun y h => f x y h := rfl
theorem e_cons {m : Dn W} {r : Dn (List W)} : dCons m r ws h = (m ws h).bnd fun x h => (r ws h).bnd fun xs h => .ok (x :: xs) h := rfl
theorem e_nil : dNil ws h = .ok [] h := rfl
theorem e_c {w : W} : dC w ws h = .ok w h := rfl
theorem e_k {α : Type} {k : α} : dK k ws h = .ok k h := rfl
theorem e_if {α : Type} {c : Dn Bool} {a b : Dn α} : dIf c a b ws h = (c ws h).bnd fun k h => match k with | true => a ws h | false => b ws h := rfl
theorem e_test {m : Dn W} : dTest m ws h = (m ws h).bnd toB := rfl
theorem e_toB {k : Bool} : toB (.bl k) h = .ok k h := rfl
theorem e_not {m : Dn Bool} : dNot m ws h = (m ws h).bnd fun k h => .ok (!k) h := rfl
theorem e_and {a b : Dn Bool} : dAnd a b ws h = (a ws h).bnd fun k h => match k with | true => b ws h | false => .ok false h := rfl
theorem e_or {a b : Dn Bool} : dOr a b ws h = (a ws h).bnd fun k h => match k with | true => .ok true h | false => b ws h := rfl
theorem e_call0 {m : List W → MH → Res W} : dCall0 m ws h = m [] h := rfl
theorem e_var0 {w : W} {r : WS} : dVar 0 (some w :: r) h = .ok w h := rfl
theorem e_varS {i : Nat} {o : Option W} {r : WS} : dVar (i + 1) (o :: r) h = dVar i r h := rfl
theorem e_chk1 {m : List W → MH → Res W} {a : W} : chkN 1 m [a] h = m [a] h := rfl
theorem e_chk2 {m : List W → MH → Res W} {a b : W} : chkN 2 m [a, b] h = m [a, b] h := rfl
theorem e_chk3 {m : List W → MH → Res W} {a b c : W} : chkN 3 m [a, b, c] h = m [a, b, c] h := rfl
theorem e_chk4 {m : List W → MH → Res W} {a b c d : W} : chkN 4 m [a, b, c, d] h = m [a, b, c, d] h := rfl
theorem e_name {i : Nat} {w : W} : bName i w ws = some (ws.set i (some w)) := rfl
theorem e_bnil : bNil [] ws = some ws := rfl
theorem e_bcons {f : W → WS → Option WS} {r : List W → WS → Option WS} {x : W} {xs : List W} : bCons f r (x :: xs) ws = (f x ws).bind (r xs) := rfl
theorem e_tup0 : fTup [] h = .ok (.tup []) h := rfl
theorem e_tup1 {a : W} : fTup [a] h = .ok (.tup [a]) h := rfl
theorem e_tup2 {a b : W} : fTup [a, b] h = .ok (.tup [a, b]) h := rfl
theorem e_tup3 {a b c : W} : fTup [a, b, c] h = .ok (.tup [a, b, c]) h := rfl
theorem e_lst0 : fLst [] h = .ok (.ref h.n) (h.push (.lst [])) := rfl
theorem e_lst1 {a : W} : fLst [a] h = .ok (.ref h.n) (h.push (.lst [a])) := rfl
theorem e_lst2 {a b : W} : fLst [a, b] h = .ok (.ref h.n) (h.push (.lst [a, b])) := rfl
theorem e_lst3 {a b c : W} : fLst [a, b, c] h = .ok (.ref h.n) (h.push (.lst [a, b, c])) := rfl
theorem e_ix0 {a : W} {xs : List W} : fIx (.tup (a :: xs)) (.int 0) h = .ok a h := by
  show (match atI (a :: xs) 0 with | some w => (Res.ok w h : Res W) | none => .stuck) = _
  have : atI (a :: xs) 0 = some a := by
    unfold atI
    rw [ixN_ok (by omega) (by simp <;> omega)]
    rfl
  rw [this]
theorem e_ix1 {a b : W} {xs : List W} : fIx (.tup (a :: b :: xs)) (.int 1) h = .ok b h := by
  show (match atI (a :: b :: xs) 1 with | some w => (Res.ok w h : Res W) | none => .stuck) = _
  have : atI (a :: b :: xs) 1 = some b := by
    unfold atI
    rw [ixN_ok (by omega) (by simp <;> omega)]
    rfl
  rw [this]
theorem e_add {i j : Int} : fAddA (.int i) (.int j) h = .ok (.int (i + j)) h := rfl
theorem e_sub {i j : Int} : fSubA (.int i) (.int j) h = .ok (.int (i - j)) h := rfl
theorem e_lt {i j : Int} : fLtA (.int i) (.int j) h = .ok (.bl (decide (i < j))) h := rfl
theorem e_le {i j : Int} : fLeA (.int i) (.int j) h = .ok (.bl (decide (i ≤ j))) h := rfl
theorem e_gt {i j : Int} : fGtA (.int i) (.int j) h = .ok (.bl (decide (j < i))) h := rfl
theorem e_ge {i j : Int} : fGe (.int i) (.int j) h = .ok (.bl (decide (j ≤ i))) h := rfl
theorem e_items {xs : List W} : items (.tup xs) h = some xs := rfl
theorem e_btup2 {f : List W → WS → Option WS} {a b : W} : bTup 2 f (.tup [a, b]) ws = f [a, b] ws := rfl
theorem e_beq0 {a b : W} : Nat.beq [a, b].length 2 = true := rfl
end
theorem mf0 {nl : Nat} {b : DS} {h : MH} : mFun 0 nl b [] h = (b (List.replicate nl none) h).fin := rfl
theorem mf1 {nl : Nat} {b : DS} {x : W} {h : MH} : mFun 1 nl b [x] h = (b (some x :: List.replicate nl none) h).fin := rfl
theorem mf2 {nl : Nat} {b : DS} {x y : W} {h : MH} : mFun 2 nl b [x, y] h = (b (some x :: some y :: List.replicate nl none) h).fin := rfl
theorem mf3 {nl : Nat} {b : DS} {x y z : W} {h : MH} : mFun 3 nl b [x, y, z] h = (b (some x :: some y :: some z :: List.replicate nl none) h).fin := rfl
theorem mf4 {nl : Nat} {b : DS} {x y z u : W} {h : MH} : mFun 4 nl b [x, y, z, u] h = (b (some x :: some y :: some z :: some u :: List.replicate nl none) h).fin := rfl
/-! ## bounds -/
def Bd (n : Nat) (i : Int) : Prop := i.natAbs < 2 ^ n
theorem Bd.add {n m : Nat} {i j : Int} (a : Bd n i) (b : Bd m j) : Bd (max n m + 1) (i + j) := by
  unfold Bd at *
  have h1 : 2 ^ n ≤ 2 ^ (max n m) := Nat.pow_le_pow_right (by decide) (Nat.le_max_left _ _)
  have h2 : 2 ^ m ≤ 2 ^ (max n m) := Nat.pow_le_pow_right (by decide) (Nat.le_max_right _ _)
  rw [Nat.pow_succ]
  omega
theorem Bd.sub {n m : Nat} {i j : Int} (a : Bd n i) (b : Bd m j) : Bd (max n m + 1) (i - j) := by
  unfold Bd at *
  have h1 : 2 ^ n ≤ 2 ^ (max n m) := Nat.pow_le_pow_right (by decide) (Nat.le_max_left _ _)
  have h2 : 2 ^ m ≤ 2 ^ (max n m) := Nat.pow_le_pow_right (by decide) (Nat.le_max_right _ _)
  rw [Nat.pow_succ]
  omega
theorem Bd.mul {n m : Nat} {i j : Int} (a : Bd n i) (b : Bd m j) : Bd (n + m) (i * j) := by
  unfold Bd at *
  rw [Int.natAbs_mul i j, Nat.pow_add]
  exact Nat.mul_lt_mul'' a b
def Sm (i : Int) : Prop := -(2 ^ 64) < i ∧ i < 2 ^ 64
theorem Bd.sm {n : Nat} {i : Int} (b : Bd n i) (l : n ≤ 63) : Sm i := by
  have : 2 ^ n ≤ 2 ^ 63 := Nat.pow_le_pow_right (by decide) l
  have e : (2:Nat)^63 = 9223372036854775808 := by decide
  unfold Bd at b
  unfold Sm
  omega
theorem e_mul {i j : Int} {h : MH} (b : Sm j) : fMulC (.int i) (.int j) h = .ok (.int (i * j)) h := fMulC_ok (cMulB_r b)
abbrev Ed (a b c d : Int) : W := .tup [Pr a b, Pr c d]
end M

set_option Elab.async false
set_option linter.all false
set_option maxRecDepth 100000
set_option maxHeartbeats 4000000
namespace M
open PySem PySem.Spec PyProof.Rows L2
/-! # What only adds to the small heap -/
structure Le (h h' : MH) : Prop where
  n : h.n ≤ h'.n
  g : ∀ i, i < h.n → h'.get i = h.get i
theorem Le.refl (h : MH) : Le h h := ⟨Nat.le_refl _, fun _ _ => rfl⟩
theorem Le.trans {a b c : MH} (x : Le a b) (y : Le b c) : Le a c := ⟨Nat.le_trans x.n y.n, fun i hi => (y.g i (Nat.lt_of_lt_of_le hi x.n)).trans (x.g i hi)⟩
theorem Le.push (h : MH) (o : O) : Le h (h.push o) := ⟨Nat.le_succ _, fun i hi => MH.get_push_ne (Nat.ne_of_lt hi)⟩
theorem Le.push' {a h : MH} (x : Le a h) (o : O) : Le a (h.push o) := x.trans (Le.push h o)
/-! ## data -/
inductive D where
  | int (i : Int) | bl (b : Bool) | str (x : Str) | non | tup (ds : List D) | lst (ds : List D)
mutual
def Val (h : MH) : D → W → Prop
  | .int i, w => w = .int i
  | .bl b, w => w = .bl b
  | .str x, w => w = .str x
  | .non, w => w = .non
  | .tup ds, w => ∃ xs, w = .tup xs ∧ Vals h ds xs
  | .lst ds, w => ∃ k xs, w = .ref k ∧ k < h.n ∧ h.get k = some (.lst xs) ∧ Vals h ds xs
def Vals (h : MH) : List D → List W → Prop
  | [], xs => xs = []
  | d :: ds, xs => ∃ x r, xs = x :: r ∧ Val h d x ∧ Vals h ds r
end
mutual
theorem Val.le {h h' : MH} (L : Le h h') : ∀ {d : D} {w : W}, Val h d w → Val h' d w
  | .int _, _, e => e
  | .bl _, _, e => e
  | .str _, _, e => e
  | .non, _, e => e
  | .tup ds, w, e => by
    unfold Val at e ⊢
    obtain ⟨xs, rfl, r⟩ := e
    exact ⟨xs, rfl, Vals.le L r⟩
  | .lst ds, w, e => by
    unfold Val at e ⊢
    obtain ⟨k, xs, rfl, hk, hg, r⟩ := e
    exact ⟨k, xs, rfl, Nat.lt_of_lt_of_le hk L.n, by rw [L.g k hk]; exact hg, Vals.le L r⟩
theorem Vals.le {h h' : MH} (L : Le h h') : ∀ {ds : List D} {xs : List W}, Vals h ds xs → Vals h' ds xs
  | [], _, e => e
  | d :: ds, xs, e => by
    unfold Vals at e ⊢
    obtain ⟨x, r, rfl, a, b⟩ := e
    exact ⟨x, r, rfl, Val.le L a, Vals.le L b⟩
end
theorem Vals.len {h : MH} : ∀ {ds : List D} {xs : List W}, Vals h ds xs → xs.length = ds.length
  | [], _, e => by unfold Vals at e; rw [e]; rfl
  | d :: ds, xs, e => by
    unfold Vals at e
    obtain ⟨x, r, rfl, a, b⟩ := e
    simp [Vals.len b]
theorem Vals.at {h : MH} : ∀ {ds : List D} {xs : List W} {i : Nat} {x : W}, Vals h ds xs → xs[i]? = some x → ∃ d, ds[i]? = some d ∧ Val h d x
  | [], _, _, _, e, q => by unfold Vals at e; rw [e] at q; simp at q
  | d :: ds, xs, 0, x, e, q => by
    unfold Vals at e
    obtain ⟨x', r, rfl, a, b⟩ := e
    simp at q
    subst q
    exact ⟨d, rfl, a⟩
  | d :: ds, xs, i + 1, x, e, q => by
    unfold Vals at e
    obtain ⟨x', r, rfl, a, b⟩ := e
    obtain ⟨d', e1, e2⟩ := Vals.at (i := i) b (by simpa using q)
    exact ⟨d', by simpa using e1, e2⟩
theorem Vals.mk {h : MH} : ∀ {ds : List D} {xs : List W}, xs.length = ds.length → (∀ (i : Nat) (x : W) (d : D), xs[i]? = some x → ds[i]? = some d → Val h d x) → Vals h ds xs
  | [], xs, hl, _ => by unfold Vals; exact List.eq_nil_of_length_eq_zero hl
  | d :: ds, [], hl, _ => by simp at hl
  | d :: ds, x :: xs, hl, k => by
    unfold Vals
    exact ⟨x, xs, rfl, k 0 x d rfl rfl, Vals.mk (by simpa using hl) fun i y e h1 h2 => k (i + 1) y e (by simpa using h1) (by simpa using h2)⟩
theorem Val.lst_of {h : MH} {ds : List D} {xs : List W} (r : Vals h ds xs) : Val (h.push (.lst xs)) (.lst ds) (.ref h.n) := by
  unfold Val
  exact ⟨h.n, xs, rfl, Nat.lt_succ_self _, MH.get_push, r.le (Le.push h _)⟩
theorem Val.tup_of {h : MH} {ds : List D} {xs : List W} (r : Vals h ds xs) : Val h (.tup ds) (.tup xs) := by
  unfold Val
  exact ⟨xs, rfl, r⟩
mutual
/-- without lists: the value itself -/
def D.w : D → W
  | .int i => .int i
  | .bl b => .bl b
  | .str x => .str x
  | .non => .non
  | .tup ds => .tup (ws ds)
  | .lst _ => .opq
def ws : List D → List W
  | [] => []
  | d :: ds => d.w :: ws ds
end
mutual
def D.flat : D → Bool
  | .tup ds => flats ds
  | .lst _ => false
  | _ => true
def flats : List D → Bool
  | [] => true
  | d :: ds => d.flat && flats ds
end
mutual
theorem Val.flat {h : MH} : ∀ {d : D} {w : W}, d.flat = true → Val h d w → w = d.w
  | .int _, _, _, e => e
  | .bl _, _, _, e => e
  | .str _, _, _, e => e
  | .non, _, _, e => e
  | .tup ds, w, f, e => by
    unfold Val at e
    unfold D.flat at f
    obtain ⟨xs, rfl, r⟩ := e
    rw [Vals.flat f r]; rfl
  | .lst _, _, f, _ => by unfold D.flat at f; cases f
theorem Vals.flat {h : MH} : ∀ {ds : List D} {xs : List W}, flats ds = true → Vals h ds xs → xs = ws ds
  | [], _, _, e => by unfold Vals at e; exact e
  | d :: ds, xs, f, e => by
    unfold Vals at e
    unfold flats at f
    obtain ⟨f1, f2⟩ := Bool.and_eq_true_iff.mp f
    obtain ⟨x, r, rfl, a, b⟩ := e
    rw [Val.flat f1 a, Vals.flat f2 b]; rfl
end
mutual
theorem Val.of_flat {h : MH} : ∀ {d : D}, d.flat = true → Val h d d.w
  | .int _, _ => rfl
  | .bl _, _ => rfl
  | .str _, _ => rfl
  | .non, _ => rfl
  | .tup ds, f => by
    unfold D.flat at f
    unfold Val
    exact ⟨ws ds, rfl, Vals.of_flat f⟩
  | .lst _, f => by unfold D.flat at f; cases f
theorem Vals.of_flat {h : MH} : ∀ {ds : List D}, flats ds = true → Vals h ds (ws ds)
  | [], _ => rfl
  | d :: ds, f => by
    unfold flats at f
    obtain ⟨f1, f2⟩ := Bool.and_eq_true_iff.mp f
    unfold Vals
    exact ⟨d.w, ws ds, rfl, Val.of_flat f1, Vals.of_flat f2⟩
end
/-! ## comprehensions walked -/
theorem lc_go {nx : Nx} {b : W → WS → Option WS} {e : Dn W} {w0 : WS} {its : List W} {R : Nat → W → MH → Prop} {h0 : MH} (up : ∀ i y h h', Le h h' → R i y h → R i y h') (hnx : ∀ i h, Le h0 h → nx i h = some its[i]?)
    (st : ∀ i x h, its[i]? = some x → Le h0 h → ∃ w' y h', b x w0 = some w' ∧ e w' h = .ok y h' ∧ Le h h' ∧ R i y h') :
    ∀ (j i fuel : Nat) (acc : List W) (h : MH), i + j = its.length → j < fuel → Le h0 h → acc.length = i → (∀ (k : Nat) (y : W), acc.reverse[k]? = some y → R k y h) →
      ∃ ys h', dLcGo nx b (dK true) e w0 fuel i acc h = .ok ys h' ∧ Le h h' ∧ ys.length = its.length ∧ ∀ (k : Nat) (y : W), ys.reverse[k]? = some y → R k y h'
  | 0, i, fuel + 1, acc, h, hi, _, L, hl, k => by
    refine ⟨acc, h, ?_, Le.refl h, by omega, k⟩
    unfold dLcGo
    rw [hnx i h L, List.getElem?_eq_none (by omega)]
  | j + 1, i, fuel + 1, acc, h, hi, hf, L, hl, k => by
    have lt : i < its.length := by omega
    have ei : its[i]? = some its[i] := List.getElem?_eq_getElem lt
    obtain ⟨w', y, h1, e1, e2, L1, r⟩ := st i _ h ei L
    obtain ⟨ys, h2, q1, L2, q3, q4⟩ := lc_go up hnx st j (i + 1) fuel (y :: acc) h1 (by omega) (by omega) (L.trans L1) (by simp [hl]) fun k' y' q => by
      rw [List.reverse_cons] at q
      by_cases c : k' < acc.reverse.length
      · rw [List.getElem?_append_left c] at q
        exact up _ _ _ _ L1 (k k' y' q)
      · rw [List.getElem?_append_right (Nat.not_lt.mp c)] at q
        have z : k' - acc.reverse.length = 0 := by
          cases z : k' - acc.reverse.length with
          | zero => rfl
          | succ m => rw [z] at q; simp at q
        rw [z] at q
        simp at q
        subst q
        rw [List.length_reverse] at z c
        have : k' = i := by omega
        rw [this]
        exact r
    refine ⟨ys, h2, ?_, L1.trans L2, q3, q4⟩
    unfold dLcGo
    rw [hnx i h L, ei]
    simp only [e1, e2, dK]
    exact q1
theorem lc_run2 {m : Dn Nx} {vs : List Nat} {nx : Nx} {b : W → WS → Option WS} {e : Dn W} {w0 : WS} {its : List W} {R : Nat → W → MH → Prop} {h h0 : MH} (hm : m w0 h = .ok nx h0) (len : its.length ≤ 1000000) (up : ∀ i y h h', Le h h' → R i y h → R i y h') (hnx : ∀ i h, Le h0 h → nx i h = some its[i]?)
    (st : ∀ i x h, its[i]? = some x → Le h0 h → ∃ w' y h', b x (wipeW w0 vs) = some w' ∧ e w' h = .ok y h' ∧ Le h h' ∧ R i y h') :
    ∃ ys h1, dLc m vs b (dK true) e w0 h = .ok (.ref h1.n) (h1.push (.lst ys)) ∧ Le h0 h1 ∧ ys.length = its.length ∧ ∀ (k : Nat) (y : W), ys[k]? = some y → R k y h1 := by
  obtain ⟨ys, h1, q1, q2, q3, q4⟩ := lc_go (w0 := wipeW w0 vs) up hnx st its.length 0 LOOPS [] h0 (by omega) (by unfold LOOPS; omega) (Le.refl h0) rfl (by simp)
  refine ⟨ys.reverse, h1, ?_, q2, by simpa using q3, q4⟩
  unfold dLc
  rw [hm]
  dsimp only [Res.bnd]
  rw [q1]
  dsimp only
  unfold fRevL fLst
  have : lenOk ys.reverse = true := Nat.ble_eq.mpr (by rw [List.length_reverse]; omega)
  rw [this]
theorem nTup_at {xs : List W} (i : Nat) (h : MH) : nTup xs i h = some xs[i]? := rfl
theorem nCell_at {k : Nat} {xs : List W} {h0 h : MH} (hk : k < h0.n) (e : h0.get k = some (.lst xs)) (i : Nat) (L : Le h0 h) : nCell k i h = some xs[i]? := by
  unfold nCell
  rw [L.g k hk, e]
/-- what a def answers, told apart from how -/
def HP (m : List W → MH → Res W) (a : List W) (h : MH) : MH := match m a h with
  | .ok _ h' => h'
  | .exc _ _ h' => h'
  | .stuck => h
theorem of_ex {m : List W → MH → Res W} {a : List W} {h : MH} {w : W} (e : ∃ h', m a h = .ok w h' ∧ Le h h') : m a h = .ok w (HP m a h) ∧ Le h (HP m a h) := by
  obtain ⟨h', e1, e2⟩ := e
  unfold HP
  rw [e1]
  exact ⟨rfl, e2⟩
end M

set_option Elab.async false
set_option linter.all false
set_option maxRecDepth 100000
set_option maxHeartbeats 4000000
/-! # enumerate of a tuple -/
namespace M
open PySem PySem.Spec PyProof.Rows L2
open Sem (wp) in
theorem meets_enum1 {v : Value} {o : Obj} {P : Heap → Prop} (B : Begins v o P) :
    Meets (Builtin.«enumerate.__new__» ⟨[.type "enumerate", v], []⟩) (fun _ R s => P s.heap ∧ R (.ok (.ret (.ref (s.heap.push o).objs.size)))
      { s with heap := (s.heap.push o).push { cls := .type "enumerate", data := .fields #[.none, .bool false, .ref s.heap.objs.size, rawInt 0, .none, .none] } }) :=
  .of_wp fun prog w A R s ⟨p, r⟩ => by
    obtain ⟨hp, gl, ds, tk, os⟩ := s
    have sub := sub_enumerate
    have draw : ∀ {A' : Around} {E Q : Value → Shared → Prop}, Q (.ref hp.objs.size) ⟨hp.push o, gl, ds, tk, os⟩ → wpAny (model prog w) A' (pyIter v) Q E ⟨hp, gl, ds, tk, os⟩ := fun q => B.iter prog w _ _ _ _ p q
    wp_walk using draw
    refine wpAny_stack_any fun stk => wpAny_pure ?_
    split
    · rename_i c _ _ _ _ _
      cases (c == Value.type "enumerate") <;> (wp_walk using draw; exact ⟨_, rfl, r⟩)
    · wp_walk using draw
      exact ⟨_, rfl, r⟩
def ItE (K : PySem.W.Frag) (a : Addr) : It where
  go i H := ∃ (vs : List V) (v : V), SqT K H a vs ∧ vs[i]? = some v
  yld i H u H' := ∃ (t : Addr) (v : V), u = .ref t ∧ H t = none ∧ H' = upd H t (.tup [.int (i : Nat), v]) ∧ ∀ vs, SqT K H a vs → vs[i]? = some v
  stop i H := ∃ vs : List V, SqT K H a vs ∧ vs.length ≤ i
def stE (a e it : Addr) (i : Nat) (h : Heap) : Prop := (∃ old, IsEnum h e it (i : Int) old) ∧ h.IsTupleIter it a i ∧ e ≠ it ∧ e ≠ a ∧ it ≠ a
theorem two_mem {b e it : Addr} (q : b ∈ [e, it]) : b = e ∨ b = it := by simpa using q
theorem turnE {P : Program} {w : World} {K : PySem.W.Frag} {elts : List Expr} {kk : Nat} {tpos : Pos} (a e it : Addr) : Turn P w K (.Tuple elts kk tpos) (ItE K a) [e, it] e (stE a e it) where
  mem := List.mem_cons_self ..
  obj := by
    rintro i h ⟨⟨old, he⟩, ⟨o, ho, _, hd⟩, _⟩ b hb
    rcases two_mem hb with rfl | rfl
    · exact ⟨_, he, fun v z => nomatch z⟩
    · exact ⟨o, ho, fun v z => by rw [hd] at z; cases z⟩
  keep := by
    rintro i h h' ⟨⟨old, he⟩, hi, apart⟩ k
    exact ⟨⟨old, k e (by simp) _ he⟩, hi.at fun o => k it (by simp) o, apart⟩
  self := by
    rintro A i s Q E ⟨⟨_, he⟩, _⟩ q
    exact wpAny_pyIter_enum he q
  done := by
    rintro X rfl rfl rfl hc i pins s σ H E I hf ⟨⟨old, he⟩, hit, n1, n2, n3⟩ ⟨vs, hq, hl⟩
    obtain ⟨its, rv, p, _⟩ := I.tuple hq
    obtain ⟨p0, p1, p2, p3, p4, p5⟩ := hf it (by simp)
    have len := rv.length
    have none_i : its.toArray[i]? = none := by simp; omega
    have D : Draws X.prog X.w X.A.in1 it [it, a] i (fun _ _ => True) (fun k h => k = i ∧ h.IsTupleIter it a k ∧ h.IsTuple a its.toArray) := {
      live := fun _ _ ⟨_, ⟨o, ho, _⟩, _⟩ => ⟨o, ho⟩
      frame := fun _ _ _ ⟨z, x, y⟩ k => ⟨z, x.at fun o q => k it (by simp) o q, y.at fun o q => k a (by simp) o q⟩
      item := fun k s Q E lt ⟨z, _⟩ _ => absurd z (Nat.ne_of_lt lt)
      done := fun s Q E ⟨_, x, y⟩ q => wpAny_nextOf_tuple_end (show X.A.in1.handled = none from I.ok.hd hc) x y none_i q }
    exact wpAny_pyNext_enum_endD D he ⟨rfl, hit, p⟩ fun h' ext => ⟨rfl, I.turned (t' := s.toks) (fun b o hb q => ext b o hb q) p0 p1 p3 p4 p5⟩
  item := by
    rintro X rfl rfl rfl hc i pins s σ H E I hf ⟨⟨old, he⟩, hit, n1, n2, n3⟩ ⟨vs, v, hq, hv⟩
    obtain ⟨its, rv, p, _⟩ := I.tuple hq
    obtain ⟨u, hu, ru⟩ := rv.get hv
    have D := Draws.tuple (prog := X.prog) (w := X.w) (A := X.A.in1) (show X.A.in1.handled = none from I.ok.hd hc) it a (Ne.symm n3) its.toArray
    have lt : i < its.toArray.size := by simpa using (List.getElem?_eq_some_iff.mp hu).1
    have le_e : e < s.heap.objs.size := Heap.lt_size he
    have le_it : it < s.heap.objs.size := by obtain ⟨_, z, _⟩ := hit; exact Heap.lt_size z
    refine wpAny_pyNext_enum_itemD D he ⟨hit, p⟩ lt n1 (by simp [n1, n2]) fun u' h' tk hu' ho st' hT hsz hk => ?_
    have : u' = u := by
      have z : its.toArray[i]? = some u := by simpa using hu
      rw [z] at hu'
      exact (Option.some.inj hu').symm
    subst this
    refine ⟨_, rfl, wpAny_letOwnedTupleGo_enum (s := { s with heap := h', toks := tk + 1 }) ho fun h2 he2 sb => ?_⟩
    have same : ∀ b o, b ∉ [e, it] → s.heap.get? b = some o → h2.get? b = some o := fun b o nb q =>
      (sb.2 b fun z => nb (by simp [z])).trans (hk b o (fun z => nb (by simp [z])) (fun z => nb (by simp [z])) q)
    have pair : ObjOk X.prog X.w (upd H s.heap.objs.size (.tup [.int (i : Nat), v])) h2 s.heap.objs.size (.tup [.int (i : Nat), v]) :=
      ⟨by show 2 ≤ sizeLine; decide, [.int i tk, u'], .cons ⟨_, rfl⟩ (.cons ru .nil), _, (sb.2 _ (Nat.ne_of_gt le_e)).trans hT, rfl, _, rfl⟩
    refine ⟨.ref s.heap.objs.size, _, I.turnedNew (t' := tk + 1) same hf (Nat.le_refl _) pair, rfl, ⟨_, v, rfl, I.hok.fresh (Nat.le_refl _), rfl, fun ws hw => by rw [I.tuple_inj hw hq]; exact hv⟩, ⟨⟨u', he2⟩, st'.1.at fun o q => (sb.2 it (Ne.symm n1)).trans q, n1, n2, n3⟩, fun b hb => ?_⟩
    have lb : b < s.heap.objs.size := by rcases two_mem hb with rfl | rfl <;> assumption
    rw [upd_ne (Nat.ne_of_lt lb)]
    exact (hf b hb).1
def iEnT (K : PySem.W.Frag) (ta : TA) : TI := fun σ H R => ta σ H fun vs H1 => ∃ a us, vs = [.ref a] ∧ SqT K H1 a us ∧ R (ItE K a) H1
theorem pi_enumT {X : Cx} {e : Expr} {ta : TA} {p pos tpos : Pos} {elts : List Expr} {kk : Nat} (hg : Gl X "enumerate") (hm : X.mg "enumerate" = none) (ha : PA X [e] ta) (hs : starEach [e] X.env = [(false, eval e X.env)] := by rfl) :
    PI X (.Tuple elts kk tpos) (.Call (.Name "enumerate" p) [e] [] pos) (iEnT X.K ta) where
  run pins s σ H R I h := by
    refine Call_ (ld_blt I hg hm boot_enumerate (PyProof.Rows.callWith_type1 (thn (ha.run pos pins s σ H _ I h) ?_) hs rfl))
    rintro _ s1 ⟨_, H1, I1, r1, a, us, rfl, hq, q⟩
    cases r1 with
    | cons r rr =>
      cases rr
      cases r
      obtain ⟨its, rv, p', _⟩ := I1.tuple hq
      have la : a < s1.heap.objs.size := by obtain ⟨_, z, _⟩ := id p'; exact Heap.lt_size z
      refine callType_new F.called_enumerate (by decide) (F.typeCall_enumerate_1 _) (F.newCall_enumerate_1 _) (fun obj => F.args_object_init_2 obj _) F.entry_enumerate_new (meets_enum1 (begins_tuple a its.toArray)) ⟨p', ?_⟩
      have size1 : ∀ o, (s1.heap.push o).objs.size = s1.heap.objs.size + 1 := fun o => Heap.size_push ..
      show _ ∧ _
      rw [size1]
      have at1 : ∀ o o', o'.isFreed = false → ((s1.heap.push o).push o').get? (s1.heap.objs.size + 1) = some o' := fun o o' z => by
        have := Heap.get?_push_size (s1.heap.push o) (o := o') z
        rw [size1] at this
        exact this
      have he := at1 { cls := .type "tuple_iterator", data := .fields #[.ref a, .int 0 0] } { cls := .type "enumerate", data := .fields #[.none, .bool false, .ref s1.heap.objs.size, rawInt 0, .none, .none] } rfl
      refine ⟨⟨_, he, rfl⟩, wpAny_pyIter_enum (it := s1.heap.objs.size) (i := 0) (old := .none) he ?_⟩
      have I2 : Inv X pins σ H1 { s1 with heap := (s1.heap.push { cls := .type "tuple_iterator", data := .fields #[.ref a, .int 0 0] }).push { cls := .type "enumerate", data := .fields #[.none, .bool false, .ref s1.heap.objs.size, rawInt 0, .none, .none] } } :=
        I1.kept (t' := s1.toks) fun b o z => Heap.get?_push_of_some _ (Heap.get?_push_of_some _ z)
      refine ⟨s1.heap.objs.size + 1, [s1.heap.objs.size + 1, s1.heap.objs.size], _, _, H1, rfl, I2, turnE a (s1.heap.objs.size + 1) s1.heap.objs.size, ⟨⟨.none, he⟩, ⟨_, Heap.get?_push_of_some _ (Heap.get?_push_size _ rfl), rfl, rfl⟩, Nat.succ_ne_self _, fun z => ?_, fun z => ?_⟩, fun b hb => ?_, q⟩
      · rw [← z] at la
        exact absurd la (Nat.not_lt.mpr (Nat.le_succ _))
      · rw [← z] at la
        exact Nat.lt_irrefl _ la
      · have lb : s1.heap.objs.size ≤ b := by
          rcases two_mem hb with z | z
          · rw [z]; exact Nat.le_succ _
          · rw [z]; exact Nat.le_refl _
        exact I1.fpOk lb (I1.hok.fresh lb)
variable {X : Cx} {g : Gd} {e : Expr} {pos : Pos}
def fEnumT (xs : List W) (h : MH) : Res Nx := match xs with
  | [.tup ys] => .ok (nEnum (nTup ys)) h
  | _ => .stuck
theorem ok_enumT {a : Addr} {vs : List V} {xs : List W} : ItOk g (ItE g.K a) (fun ρ n H => H a = some (.tup vs) ∧ RelWs g ρ n H xs vs) (nEnum (nTup xs)) where
  ext := fun x p => ok_tup.ext x p
  out2 := fun hp l hr p => ok_tup.out2 hp l hr p
  go := fun ρ h H i w S ⟨e, r⟩ q => by
    unfold nEnum at q
    split at q
    · rename_i x q1
      cases q
      obtain ⟨v, v1, v2⟩ := r.get (Option.some.inj q1)
      refine ⟨⟨vs, v, SqT.of e, v1⟩, fun t H' ⟨T, u, z1, hT, z2, z3⟩ => ?_⟩
      subst z1 z2
      have z := z3 vs (SqT.of e)
      rw [v1] at z
      cases z
      exact new_pair S hT (by simp only [RelW]) v2
    · cases q
    · cases q
  stop := fun ρ h H i S ⟨e, r⟩ q => by
    unfold nEnum at q
    split at q
    · cases q
    · rename_i q1
      exact ⟨vs, SqT.of e, List.getElem?_eq_none_iff.mp (r.none (Option.some.inj q1))⟩
    · cases q
theorem mi_enumT (hK : X.K = g.K) {p tpos : Pos} {elts : List Expr} {kk : Nat} {m : Dn (List W)} (hg : Gl X "enumerate") (hm : X.mg "enumerate" = none) (ha : PA X [e] (tA g Wx m)) (hs : starEach [e] X.env = [(false, eval e X.env)] := by rfl) :
    PI X (.Tuple elts kk tpos) (.Call (.Name "enumerate" p) [e] [] pos) (tI g Wx (dOne fEnumT m)) :=
  weakI (pi_enumT hg hm ha hs) fun σ H R q => oneI_reads (R := RelWs g) q fun ρ h H x vx S r f => by
    rw [hK]
    unfold fEnumT at f
    split at f
    · obtain ⟨v, rfl, r1⟩ := one_of r
      simp only [RelW] at r1
      obtain ⟨a, vs, rfl, e2, e3⟩ := r1
      exact ⟨a, vs, rfl, SqT.of e2, f ρ H _ S.refl S ⟨_, ok_enumT, e2, e3⟩⟩
    · exact f.elim
end M

set_option Elab.async false
set_option linter.all false
set_option maxRecDepth 100000
set_option maxHeartbeats 4000000
namespace M.K13
open PySem PySem.Spec PyProof.Rows L2
def m__law_bad_arms : List W → MH → Res W := mFun 0 0 (dRet (dOne fLst (dCons (dC .non) (dCons (dC (.int 5)) (dCons (dC (.str "ab")) (dCons (dOne fTup (dNil)) (dCons (dOne fTup (dCons (dC (.int 2)) (dCons (dC (.int 4)) (dNil)))) (dCons (dOne fTup (dCons (dOne fNeg (dC (.int 1))) (dCons (dC (.int 0)) (dNil)))) (dCons (dOne fTup (dCons (dC (.int 0)) (dCons (dOne fNeg (dC (.int 1))) (dNil)))) (dCons (dOne fTup (dCons (dC (.int 0)) (dCons (dC (.int 2)) (dNil)))) (dCons (dOne fTup (dCons (dC (.int 0)) (dCons (dC (.int 0)) (dNil)))) (dCons (dOne fTup (dCons (dC (.int 1)) (dNil))) (dCons (dOne fTup (dCons (dC (.int 1)) (dCons (dC (.int 0)) (dCons (dC (.int 0)) (dNil))))) (dCons (dOne fTup (dCons (dC (.bl true)) (dCons (dC (.int 0)) (dNil)))) (dCons (dOne fTup (dCons (dC (.int 1)) (dCons (dC .non) (dNil)))) (dCons (dOne fTup (dCons (dOne fTup (dCons (dC (.int 1)) (dCons (dC (.int 0)) (dNil)))) (dNil))) (dNil)))))))))))))))))
def m_outer : List W → MH → Res W := mFun 2 0 (dRet (dOp fSubA (dOp fMulC (dOp fIx (dVar 0) (dC (.int 0))) (dOp fIx (dVar 1) (dC (.int 1)))) (dOp fMulC (dOp fIx (dVar 0) (dC (.int 1))) (dOp fIx (dVar 1) (dC (.int 0))))))
def m_are_near : List W → MH → Res W := mFun 2 0 (dRet (dOp fEq (dOne fAbs (dCons (dOne (chkN 2 m_outer) (dCons (dVar 0) (dCons (dVar 1) (dNil)))) (dNil))) (dC (.int 2))))
def m_is_number : List W → MH → Res W := mFun 1 0 (dRet (dIf (dTest (dOne fIsi (dCons (dVar 0) (dCons (dC (.ty .int)) (dNil))))) (dOne fNotW (dOne fIsi (dCons (dVar 0) (dCons (dC (.ty .bool)) (dNil))))) (dC (.bl false))))
def m_fits_pair : List W → MH → Res W := mFun 1 0 (dRet (dIf (dTest (dOne fIsi (dCons (dVar 0) (dCons (dC (.ty .tuple)) (dNil))))) (dIf (dTest (dOp fEq (dOne fLen (dCons (dVar 0) (dNil))) (dC (.int 2)))) (dIf (dTest (dOne (chkN 1 m_is_number) (dCons (dOp fIx (dVar 0) (dC (.int 0))) (dNil)))) (dOne (chkN 1 m_is_number) (dCons (dOp fIx (dVar 0) (dC (.int 1))) (dNil))) (dC (.bl false))) (dC (.bl false))) (dC (.bl false))))
def m_fits_arm : List W → MH → Res W := mFun 1 0 (dRet (dIf (dTest (dOne (chkN 1 m_fits_pair) (dCons (dVar 0) (dNil)))) (dIf (dTest (dOp fGtA (dVar 0) (dOne fTup (dCons (dC (.int 0)) (dCons (dC (.int 0)) (dNil)))))) (dOp fEq (dOne fGcd (dCons (dOp fIx (dVar 0) (dC (.int 0))) (dCons (dOp fIx (dVar 0) (dC (.int 1))) (dNil)))) (dC (.int 1))) (dC (.bl false))) (dC (.bl false))))
def m_fits_edge : List W → MH → Res W := mFun 1 4 (dSeq (dIfS (dOr (dNot (dTest (dOne fIsi (dCons (dVar 0) (dCons (dC (.ty .tuple)) (dNil)))))) (dOr (dTest (dOp fNe (dOne fLen (dCons (dVar 0) (dNil))) (dC (.int 2)))) (dOr (dNot (dTest (dOne (chkN 1 m_fits_pair) (dCons (dOp fIx (dVar 0) (dC (.int 0))) (dNil))))) (dNot (dTest (dOne (chkN 1 m_fits_pair) (dCons (dOp fIx (dVar 0) (dC (.int 1))) (dNil)))))))) (dRet (dC (.bl false))) (dNext)) (dSeq (dAsgA (dVar 0) 2 (bCons (bTup 2 (bCons (bName 1) (bCons (bName 2) (bNil)))) (bCons (bTup 2 (bCons (bName 3) (bCons (bName 4) (bNil)))) (bNil)))) (dRet (dOne (chkN 1 m_fits_arm) (dCons (dOne fTup (dCons (dOp fSubA (dVar 3) (dVar 1)) (dCons (dOp fSubA (dVar 4) (dVar 2)) (dNil)))) (dNil))))))
def m_tupledR : Nat → List W → MH → Res W
  | 0 => fun _ _ => .stuck
  | n + 1 => mFun 2 1 (dSeq (dIfS (dOr (dTest (dOp fEq (dVar 1) (dC (.int 0)))) (dNot (dTest (dOne fIsi (dCons (dVar 0) (dCons (dOne fTup (dCons (dC (.ty .list)) (dCons (dC (.ty .tuple)) (dNil)))) (dNil))))))) (dRet (dVar 0)) (dNext)) (dRet (dOne fTuple (dCons (dLc (dOne fSrc (dVar 0)) [2] (bName 2) (dK true) (dOne (chkN 2 (m_tupledR n)) (dCons (dVar 2) (dCons (dOp fSubA (dVar 1) (dC (.int 1))) (dNil))))) (dNil)))))
def m_tupled : List W → MH → Res W := m_tupledR 8
def tab4 : Nat → Option (Nat × (List W → MH → Res W))
  | 13 => some (1, m_fits_arm)
  | 14 => some (1, m_fits_edge)
  | _ => none
def m_given : List W → MH → Res W := mFun 3 1 (dSeq (dAsg (dOne (chkN 2 m_tupled) (dCons (dVar 0) (dCons (dVar 1) (dNil)))) (bName 3)) (dSeq (dIfS (dNot (dTest (dCallV tab4 (dVar 2) (dCons (dVar 3) (dNil))))) (dRaise0 2) (dNext)) (dRet (dVar 3))))
def m_given_arm : List W → MH → Res W := mFun 1 0 (dRet (dOne (chkN 3 m_given) (dCons (dVar 0) (dCons (dC (.int 1)) (dCons (dC (.fn 13)) (dNil))))))
def m_are_neighbours : List W → MH → Res W := mFun 2 0 (dRet (dOne (chkN 2 m_are_near) (dCons (dOne (chkN 1 m_given_arm) (dCons (dVar 0) (dNil))) (dCons (dOne (chkN 1 m_given_arm) (dCons (dVar 1) (dNil))) (dNil)))))
def m_times : List W → MH → Res W := mFun 2 0 (dRet (dOne fTup (dCons (dOp fMulC (dVar 0) (dOp fIx (dVar 1) (dC (.int 0)))) (dCons (dOp fMulC (dVar 0) (dOp fIx (dVar 1) (dC (.int 1)))) (dNil)))))
def m_signed_arm : List W → MH → Res W := mFun 1 0 (dRet (dIf (dTest (dOp fGtA (dVar 0) (dOne fTup (dCons (dC (.int 0)) (dCons (dC (.int 0)) (dNil)))))) (dVar 0) (dOne (chkN 2 m_times) (dCons (dOne fNeg (dC (.int 1))) (dCons (dVar 0) (dNil))))))
def m_taken_off : List W → MH → Res W := mFun 2 0 (dRet (dOne fTup (dCons (dOp fSubA (dOp fIx (dVar 0) (dC (.int 0))) (dOp fIx (dVar 1) (dC (.int 0)))) (dCons (dOp fSubA (dOp fIx (dVar 0) (dC (.int 1))) (dOp fIx (dVar 1) (dC (.int 1)))) (dNil)))))
def m_arm_on : List W → MH → Res W := mFun 3 3 (dSeq (dFor (dOne fSrc (dVar 0)) (bTup 3 (bCons (bName 3) (bCons (bName 4) (bCons (bName 5) (bNil))))) (dSeq (dIfS (dTest (dOp fLtA (dVar 2) (dVar 5))) (dRet (dOne (chkN 1 m_signed_arm) (dCons (dOne (chkN 2 m_taken_off) (dCons (dVar 3) (dCons (dOne (chkN 2 m_times) (dCons (dVar 2) (dCons (dVar 4) (dNil)))) (dNil)))) (dNil)))) (dNext)) (dAsg (dOp fSubA (dVar 2) (dVar 5)) (bName 2)))) (dRet (dVar 1)))
def m_parities : List W → MH → Res W := mFun 1 0 (dRet (dOne fTup (dCons (dOp fMod (dOp fIx (dVar 0) (dC (.int 0))) (dC (.int 2))) (dCons (dOp fMod (dOp fIx (dVar 0) (dC (.int 1))) (dC (.int 2))) (dNil)))))
def m_given_alike : List W → MH → Res W := mFun 2 0 (dSeq (dPar 0 1 (dCons (dOne (chkN 1 m_given_arm) (dCons (dVar 0) (dNil))) (dCons (dOne (chkN 1 m_given_arm) (dCons (dVar 1) (dNil))) (dNil)))) (dSeq (dIfS (dTest (dOp fNe (dOne (chkN 1 m_parities) (dCons (dVar 0) (dNil))) (dOne (chkN 1 m_parities) (dCons (dVar 1) (dNil))))) (dRaise0 0) (dNext)) (dRet (dOne fTup (dCons (dVar 0) (dCons (dVar 1) (dNil)))))))
def m_given_count : List W → MH → Res W := mFun 1 0 (dSeq (dIfS (dOr (dNot (dTest (dOne (chkN 1 m_is_number) (dCons (dVar 0) (dNil))))) (dTest (dOp fLtA (dVar 0) (dC (.int 0))))) (dRaise0 2) (dNext)) (dRet (dVar 0)))
def m_inner : List W → MH → Res W := mFun 2 0 (dRet (dOp fAddA (dOp fMulC (dOp fIx (dVar 0) (dC (.int 0))) (dOp fIx (dVar 1) (dC (.int 0)))) (dOp fMulC (dOp fIx (dVar 0) (dC (.int 1))) (dOp fIx (dVar 1) (dC (.int 1))))))
def m_added : List W → MH → Res W := mFun 2 0 (dRet (dOne fTup (dCons (dOp fAddA (dOp fIx (dVar 0) (dC (.int 0))) (dOp fIx (dVar 1) (dC (.int 0)))) (dCons (dOp fAddA (dOp fIx (dVar 0) (dC (.int 1))) (dOp fIx (dVar 1) (dC (.int 1)))) (dNil)))))
def m_mate_of : List W → MH → Res W := mFun 1 5 (dSeq (dAsgA (dVar 0) 2 (bCons (bName 1) (bCons (bName 2) (bNil)))) (dSeq (dAsgA (dOne fTup (dCons (dOne fTup (dCons (dC (.int 1)) (dCons (dC (.int 0)) (dNil)))) (dCons (dOne fTup (dCons (dC (.int 0)) (dCons (dC (.int 1)) (dNil)))) (dNil)))) 2 (bCons (bName 3) (bCons (bName 4) (bNil)))) (dSeq (dWhile (dTest (dOp fNe (dVar 2) (dC (.int 0)))) (dSeq (dAsg (dOp fDivB (dVar 1) (dVar 2)) (bName 5)) (dSeq (dPar 1 2 (dCons (dVar 2) (dCons (dOp fSubA (dVar 1) (dOp fMulC (dVar 5) (dVar 2))) (dNil)))) (dPar 3 4 (dCons (dVar 4) (dCons (dOne (chkN 2 m_taken_off) (dCons (dVar 3) (dCons (dOne (chkN 2 m_times) (dCons (dVar 5) (dCons (dVar 4) (dNil)))) (dNil)))) (dNil))))))) (dRet (dOne (chkN 2 m_times) (dCons (dVar 1) (dCons (dOne fTup (dCons (dOne fNeg (dOp fIx (dVar 3) (dC (.int 1)))) (dCons (dOp fIx (dVar 3) (dC (.int 0))) (dNil)))) (dNil))))))))
def m_one_neighbour : List W → MH → Res W := mFun 1 0 (dRet (dOne (chkN 2 m_added) (dCons (dOne (chkN 2 m_times) (dCons (dC (.int 2)) (dCons (dOne (chkN 1 m_mate_of) (dCons (dVar 0) (dNil))) (dNil)))) (dCons (dVar 0) (dNil)))))
def m_elder_pair : List W → MH → Res W := mFun 1 3 (dSeq (dPar 1 2 (dCons (dOne (chkN 2 m_inner) (dCons (dVar 0) (dCons (dVar 0) (dNil)))) (dCons (dOne (chkN 1 m_one_neighbour) (dCons (dVar 0) (dNil))) (dNil)))) (dSeq (dAsg (dOne (chkN 2 m_taken_off) (dCons (dVar 2) (dCons (dOne (chkN 2 m_times) (dCons (dOp fMulC (dC (.int 2)) (dOp fDivB (dOp fAddA (dOne (chkN 2 m_inner) (dCons (dVar 2) (dCons (dVar 0) (dNil)))) (dVar 1)) (dOp fMulC (dC (.int 2)) (dVar 1)))) (dCons (dVar 0) (dNil)))) (dNil)))) (bName 3)) (dRet (dIf (dTest (dOp fGtA (dOne (chkN 2 m_inner) (dCons (dVar 3) (dCons (dVar 0) (dNil)))) (dC (.int 0)))) (dVar 3) (dOne (chkN 2 m_times) (dCons (dOne fNeg (dC (.int 1))) (dCons (dVar 3) (dNil))))))))
def m_least_pair : List W → MH → Res W := mFun 1 0 (dRet (dOp fLeA (dOne (chkN 2 m_inner) (dCons (dVar 0) (dCons (dVar 0) (dNil)))) (dC (.int 2))))
def m_told_back : List W → MH → Res W := mFun 3 0 (dRet (dOne (chkN 2 m_added) (dCons (dOne (chkN 2 m_times) (dCons (dOp fIx (dVar 0) (dC (.int 0))) (dCons (dVar 1) (dNil)))) (dCons (dOne (chkN 2 m_times) (dCons (dOp fIx (dVar 0) (dC (.int 1))) (dCons (dVar 2) (dNil)))) (dNil)))))
def m_runs_between : List W → MH → Res W := mFun 2 6 (dSeq (dAsg (dOne (chkN 1 m_mate_of) (dCons (dVar 1) (dNil))) (bName 2)) (dSeq (dAsg (dOne fTup (dCons (dOne (chkN 2 m_outer) (dCons (dVar 0) (dCons (dVar 2) (dNil)))) (dCons (dOne (chkN 2 m_outer) (dCons (dVar 1) (dCons (dVar 0) (dNil)))) (dNil)))) (bName 3)) (dSeq (dAsg (dOne fLst (dNil)) (bName 4)) (dSeq (dWhile (dNot (dTest (dOne (chkN 1 m_least_pair) (dCons (dVar 3) (dNil))))) (dSeq (dAsg (dOne (chkN 2 m_taken_off) (dCons (dVar 3) (dCons (dOne (chkN 1 m_elder_pair) (dCons (dVar 3) (dNil))) (dNil)))) (bName 5)) (dSeq (dAsg (dOne (chkN 2 m_inner) (dCons (dVar 5) (dCons (dVar 5) (dNil)))) (bName 6)) (dSeq (dAsg (dOne fNeg (dOp fDivB (dOp fSubA (dVar 6) (dOp fMulC (dC (.int 2)) (dOne (chkN 2 m_inner) (dCons (dVar 3) (dCons (dVar 5) (dNil)))))) (dOp fMulC (dC (.int 2)) (dVar 6)))) (bName 7)) (dSeq (dExpr (dMeth isL fAppend (dVar 4) (dCons (dOne fTup (dCons (dOne (chkN 3 m_told_back) (dCons (dVar 3) (dCons (dVar 1) (dCons (dVar 2) (dNil))))) (dCons (dOne (chkN 3 m_told_back) (dCons (dVar 5) (dCons (dVar 1) (dCons (dVar 2) (dNil))))) (dCons (dVar 7) (dNil))))) (dNil)))) (dAsg (dOne (chkN 2 m_taken_off) (dCons (dVar 3) (dCons (dOne (chkN 2 m_times) (dCons (dVar 7) (dCons (dVar 5) (dNil)))) (dNil)))) (bName 3))))))) (dRet (dVar 4))))))
def m_steps_of : List W → MH → Res W := mFun 1 1 (dRet (dOne fSum (dCons (dLc (dOne fSrc (dVar 0)) [1] (bName 1) (dK true) (dOp fIx (dVar 1) (dC (.int 2)))) (dNil))))
def m_at_step : List W → MH → Res W := mFun 3 1 (dSeq (dPar3 0 1 2 (dCons (dOne (chkN 1 m_given_arm) (dCons (dVar 0) (dNil))) (dCons (dOne (chkN 1 m_given_arm) (dCons (dVar 1) (dNil))) (dCons (dOne (chkN 1 m_given_count) (dCons (dVar 2) (dNil))) (dNil))))) (dSeq (dAsgA (dOne (chkN 2 m_given_alike) (dCons (dVar 0) (dCons (dVar 1) (dNil)))) 2 (bCons (bName 0) (bCons (bName 1) (bNil)))) (dSeq (dAsg (dOne (chkN 2 m_runs_between) (dCons (dVar 0) (dCons (dVar 1) (dNil)))) (bName 3)) (dSeq (dIfS (dTest (dOp fGtA (dVar 2) (dOne (chkN 1 m_steps_of) (dCons (dVar 3) (dNil))))) (dRaise0 0) (dNext)) (dRet (dOne (chkN 3 m_arm_on) (dCons (dVar 3) (dCons (dVar 1) (dCons (dVar 2) (dNil))))))))))
def m_base_between : List W → MH → Res W := mFun 2 4 (dSeq (dIfS (dNot (dTest (dOne (chkN 2 m_are_near) (dCons (dVar 0) (dCons (dVar 1) (dNil)))))) (dRaise0 0) (dNext)) (dSeq (dAsgA (dOne fTup (dCons (dOne (chkN 2 m_added) (dCons (dVar 0) (dCons (dVar 1) (dNil)))) (dCons (dOne (chkN 2 m_taken_off) (dCons (dVar 0) (dCons (dVar 1) (dNil)))) (dNil)))) 2 (bCons (bTup 2 (bCons (bName 2) (bCons (bName 3) (bNil)))) (bCons (bTup 2 (bCons (bName 4) (bCons (bName 5) (bNil)))) (bNil)))) (dRet (dOne fTup (dCons (dOne fTup (dCons (dOp fDivB (dVar 2) (dC (.int 2))) (dCons (dOp fDivB (dVar 3) (dC (.int 2))) (dNil)))) (dCons (dOne fTup (dCons (dOp fDivB (dVar 4) (dC (.int 2))) (dCons (dOp fDivB (dVar 5) (dC (.int 2))) (dNil)))) (dNil)))))))
def m_base_of : List W → MH → Res W := mFun 2 2 (dSeq (dAsgA (dOne (chkN 2 m_base_between) (dCons (dOne (chkN 1 m_given_arm) (dCons (dVar 0) (dNil))) (dCons (dOne (chkN 1 m_given_arm) (dCons (dVar 1) (dNil))) (dNil)))) 2 (bCons (bName 2) (bCons (bName 3) (bNil)))) (dRet (dOne fTuple (dCons (dOne fSortC (dCons (dOne fLst (dCons (dOne (chkN 1 m_signed_arm) (dCons (dVar 2) (dNil))) (dCons (dOne (chkN 1 m_signed_arm) (dCons (dVar 3) (dNil))) (dNil)))) (dNil))) (dNil)))))
def m_steps_apart : List W → MH → Res W := mFun 2 0 (dRet (dOne (chkN 1 m_steps_of) (dCons (dOne (chkN 2 m_runs_between) (dCons (dVar 0) (dCons (dVar 1) (dNil)))) (dNil))))
def m_depth : List W → MH → Res W := mFun 1 0 (dSeq (dAsg (dOne (chkN 1 m_given_arm) (dCons (dVar 0) (dNil))) (bName 0)) (dRet (dOne (chkN 2 m_steps_apart) (dCons (dVar 0) (dCons (dOne (chkN 1 m_parities) (dCons (dVar 0) (dNil))) (dNil))))))
def m_elder : List W → MH → Res W := mFun 1 0 (dSeq (dAsg (dOne (chkN 1 m_given_arm) (dCons (dVar 0) (dNil))) (bName 0)) (dRet (dIf (dTest (dOne (chkN 1 m_least_pair) (dCons (dVar 0) (dNil)))) (dC .non) (dOne (chkN 1 m_signed_arm) (dCons (dOne (chkN 1 m_elder_pair) (dCons (dVar 0) (dNil))) (dNil))))))
def m_given_edge : List W → MH → Res W := mFun 1 0 (dRet (dOne (chkN 3 m_given) (dCons (dVar 0) (dCons (dC (.int 2)) (dCons (dC (.fn 14)) (dNil))))))
def m_half_away : List W → MH → Res W := mFun 2 2 (dSeq (dAsg (dOne (chkN 1 m_mate_of) (dCons (dVar 0) (dNil))) (bName 2)) (dSeq (dAsg (dOne fNeg (dOp fDivB (dOne (chkN 2 m_outer) (dCons (dVar 1) (dCons (dVar 2) (dNil)))) (dOne (chkN 2 m_outer) (dCons (dVar 0) (dCons (dVar 1) (dNil)))))) (bName 3)) (dRet (dOne fTup (dCons (dVar 0) (dCons (dOne (chkN 1 m_signed_arm) (dCons (dOne (chkN 2 m_taken_off) (dCons (dOne (chkN 2 m_times) (dCons (dOp fSubA (dOp fMulC (dC (.int 2)) (dVar 3)) (dC (.int 1))) (dCons (dVar 0) (dNil)))) (dCons (dOne (chkN 2 m_times) (dCons (dC (.int 2)) (dCons (dVar 2) (dNil)))) (dNil)))) (dNil))) (dNil)))))))
def m_part_each_other : List W → MH → Res W := mFun 2 10 (dSeq (dAsgA (dOne fTup (dCons (dVar 0) (dCons (dVar 1) (dNil)))) 2 (bCons (bTup 2 (bCons (bTup 2 (bCons (bName 2) (bCons (bName 3) (bNil)))) (bCons (bTup 2 (bCons (bName 4) (bCons (bName 5) (bNil)))) (bNil)))) (bCons (bTup 2 (bCons (bTup 2 (bCons (bName 6) (bCons (bName 7) (bNil)))) (bCons (bTup 2 (bCons (bName 8) (bCons (bName 9) (bNil)))) (bNil)))) (bNil)))) (dSeq (dPar 10 11 (dCons (dOp fSubA (dVar 4) (dVar 2)) (dCons (dOp fSubA (dVar 5) (dVar 3)) (dNil)))) (dSeq (dIfS (dTest (dOp fGe (dOp fMulC (dOp fSubA (dOp fMulC (dVar 10) (dOp fSubA (dVar 7) (dVar 3))) (dOp fMulC (dVar 11) (dOp fSubA (dVar 6) (dVar 2)))) (dOp fSubA (dOp fMulC (dVar 10) (dOp fSubA (dVar 9) (dVar 3))) (dOp fMulC (dVar 11) (dOp fSubA (dVar 8) (dVar 2))))) (dC (.int 0)))) (dRet (dC (.bl false))) (dNext)) (dSeq (dPar 10 11 (dCons (dOp fSubA (dVar 8) (dVar 6)) (dCons (dOp fSubA (dVar 9) (dVar 7)) (dNil)))) (dRet (dOp fLtA (dOp fMulC (dOp fSubA (dOp fMulC (dVar 10) (dOp fSubA (dVar 3) (dVar 7))) (dOp fMulC (dVar 11) (dOp fSubA (dVar 2) (dVar 6)))) (dOp fSubA (dOp fMulC (dVar 10) (dOp fSubA (dVar 5) (dVar 7))) (dOp fMulC (dVar 11) (dOp fSubA (dVar 4) (dVar 6))))) (dC (.int 0))))))))
def m_halves : List W → MH → Res W := mFun 2 6 (dSeq (dPar 0 1 (dCons (dOne (chkN 1 m_given_edge) (dCons (dVar 0) (dNil))) (dCons (dOne (chkN 1 m_given_edge) (dCons (dVar 1) (dNil))) (dNil)))) (dSeq (dAsgA (dOne fTup (dCons (dVar 0) (dCons (dVar 1) (dNil)))) 2 (bCons (bTup 2 (bCons (bName 2) (bCons (bName 3) (bNil)))) (bCons (bTup 2 (bCons (bName 4) (bCons (bName 5) (bNil)))) (bNil)))) (dSeq (dIfS (dOr (dTest (dOp fEq (dOne (chkN 2 m_added) (dCons (dVar 2) (dCons (dVar 3) (dNil)))) (dOne (chkN 2 m_added) (dCons (dVar 4) (dCons (dVar 5) (dNil)))))) (dNot (dTest (dOne (chkN 2 m_part_each_other) (dCons (dVar 0) (dCons (dVar 1) (dNil))))))) (dRaise0 0) (dNext)) (dSeq (dPar 6 7 (dCons (dOne (chkN 2 m_taken_off) (dCons (dVar 3) (dCons (dVar 2) (dNil)))) (dCons (dOne (chkN 2 m_taken_off) (dCons (dVar 5) (dCons (dVar 4) (dNil)))) (dNil)))) (dRet (dOne fTup (dCons (dOne (chkN 2 m_half_away) (dCons (dVar 6) (dCons (dVar 7) (dNil)))) (dCons (dOne (chkN 2 m_half_away) (dCons (dVar 7) (dCons (dVar 6) (dNil)))) (dNil)))))))))
def m_check_kinds : List W → MH → Res W := mFun 1 1 (dIfS (dTest (dOp fGtA (dOne fLenSetA (dCons (dLc (dOne fSrc (dVar 0)) [1] (bName 1) (dK true) (dOne (chkN 1 m_parities) (dCons (dVar 1) (dNil)))) (dNil))) (dC (.int 1)))) (dRaise0 0) (dNext))
def m_stands_in_half : List W → MH → Res W := mFun 2 2 (dSeq (dAsgA (dVar 0) 2 (bCons (bName 2) (bCons (bName 3) (bNil)))) (dRet (dOp fGtA (dOp fMulC (dOne (chkN 2 m_outer) (dCons (dVar 1) (dCons (dVar 3) (dNil)))) (dOne (chkN 2 m_outer) (dCons (dVar 2) (dCons (dVar 1) (dNil))))) (dC (.int 0)))))
def m_is_in_half : List W → MH → Res W := mFun 3 1 (dSeq (dPar3 0 1 2 (dCons (dOne (chkN 1 m_given_arm) (dCons (dVar 0) (dNil))) (dCons (dOne (chkN 1 m_given_arm) (dCons (dVar 1) (dNil))) (dCons (dOne (chkN 1 m_given_arm) (dCons (dVar 2) (dNil))) (dNil))))) (dSeq (dAsg (dOne (chkN 2 m_base_between) (dCons (dVar 0) (dCons (dVar 1) (dNil)))) (bName 3)) (dSeq (dExpr (dOne (chkN 1 m_check_kinds) (dCons (dOne fTup (dCons (dVar 0) (dCons (dVar 2) (dNil)))) (dNil)))) (dRet (dOne (chkN 2 m_stands_in_half) (dCons (dVar 3) (dCons (dVar 2) (dNil))))))))
def m_length : List W → MH → Res W := mFun 2 0 (dSeq (dAsgA (dOne (chkN 2 m_given_alike) (dCons (dVar 0) (dCons (dVar 1) (dNil)))) 2 (bCons (bName 0) (bCons (bName 1) (bNil)))) (dRet (dOne (chkN 2 m_steps_apart) (dCons (dVar 0) (dCons (dVar 1) (dNil))))))
def m_given_all : List W → MH → Res W := mFun 3 2 (dSeq (dAsg (dOne (chkN 2 m_tupled) (dCons (dVar 0) (dCons (dOp fAddA (dVar 1) (dC (.int 1))) (dNil)))) (bName 3)) (dSeq (dIfS (dOr (dNot (dTest (dOne fIsi (dCons (dVar 3) (dCons (dC (.ty .tuple)) (dNil)))))) (dNot (dTest (dOne fAll (dCons (dLc (dOne fSrc (dVar 3)) [4] (bName 4) (dK true) (dCallV tab4 (dVar 2) (dCons (dVar 4) (dNil)))) (dNil)))))) (dRaise0 2) (dNext)) (dRet (dVar 3))))
def m_given_arms : List W → MH → Res W := mFun 1 1 (dSeq (dAsg (dOne (chkN 3 m_given_all) (dCons (dVar 0) (dCons (dC (.int 1)) (dCons (dC (.fn 13)) (dNil))))) (bName 1)) (dSeq (dIfS (dTest (dOp fEq (dVar 1) (dOne fTup (dNil)))) (dRaise0 2) (dNext)) (dRet (dVar 1))))
def m_many_in_half : List W → MH → Res W := mFun 3 2 (dSeq (dPar3 0 1 2 (dCons (dOne (chkN 1 m_given_arm) (dCons (dVar 0) (dNil))) (dCons (dOne (chkN 1 m_given_arm) (dCons (dVar 1) (dNil))) (dCons (dOne (chkN 1 m_given_arms) (dCons (dVar 2) (dNil))) (dNil))))) (dSeq (dAsg (dOne (chkN 2 m_base_between) (dCons (dVar 0) (dCons (dVar 1) (dNil)))) (bName 3)) (dSeq (dExpr (dOne (chkN 1 m_check_kinds) (dCons (dOne fTup (dCons (dVar 0) (dStar (dVar 2) (dNil)))) (dNil)))) (dRet (dOne fLen (dCons (dLc (dOne fSrc (dVar 2)) [4] (bName 4) (dTest (dOne (chkN 2 m_stands_in_half) (dCons (dVar 3) (dCons (dVar 4) (dNil))))) (dVar 4)) (dNil)))))))
def m_arm_between : List W → MH → Res W := mFun 3 0 (dRet (dOne (chkN 3 m_arm_on) (dCons (dOne (chkN 2 m_runs_between) (dCons (dVar 0) (dCons (dVar 1) (dNil)))) (dCons (dVar 1) (dCons (dVar 2) (dNil))))))
def m_median_among : List W → MH → Res W := mFun 1 5 (dSeq (dAsg (dOp fIx (dVar 0) (dC (.int 0))) (bName 1)) (dSeq (dFor (dOne fSrc (dVar 0)) (bName 2) (dSeq (dAsg (dOne (chkN 2 m_steps_apart) (dCons (dVar 1) (dCons (dVar 2) (dNil)))) (bName 3)) (dSeq (dAsg (dOne fSortC (dCons (dLc (dOne fSrc (dVar 0)) [5] (bName 5) (dK true) (dOp fDivB (dOp fSubA (dOp fAddA (dVar 3) (dOne (chkN 2 m_steps_apart) (dCons (dVar 1) (dCons (dVar 5) (dNil))))) (dOne (chkN 2 m_steps_apart) (dCons (dVar 5) (dCons (dVar 2) (dNil))))) (dC (.int 2)))) (dNil))) (bName 4)) (dAsg (dOne (chkN 3 m_arm_between) (dCons (dVar 1) (dCons (dVar 2) (dCons (dOp fIx (dVar 4) (dOp fDivB (dOne fLen (dCons (dVar 0) (dNil))) (dC (.int 2)))) (dNil))))) (bName 1))))) (dRet (dVar 1))))
def m_median : List W → MH → Res W := mFun 1 0 (dSeq (dAsg (dOne (chkN 1 m_given_arms) (dCons (dVar 0) (dNil))) (bName 0)) (dSeq (dIfS (dTest (dOp fEq (dOp fMod (dOne fLen (dCons (dVar 0) (dNil))) (dC (.int 2))) (dC (.int 0)))) (dRaise0 0) (dNext)) (dSeq (dExpr (dOne (chkN 1 m_check_kinds) (dCons (dVar 0) (dNil)))) (dRet (dOne (chkN 1 m_median_among) (dCons (dVar 0) (dNil)))))))
def m_multiples_within : List W → MH → Res W := mFun 3 0 (dSeq (dIfS (dTest (dOp fLtA (dVar 1) (dC (.int 0)))) (dPar 0 1 (dCons (dOne fNeg (dVar 0)) (dCons (dOne fNeg (dVar 1)) (dNil)))) (dNext)) (dRet (dOne fTup (dCons (dOne fNeg (dOp fDivB (dOp fAddA (dVar 2) (dVar 0)) (dVar 1))) (dCons (dOp fDivB (dOp fSubA (dVar 2) (dVar 0)) (dVar 1)) (dNil))))))
def m_neighbours : List W → MH → Res W := mFun 2 8 (dSeq (dAsgA (dOne fTup (dCons (dOne (chkN 1 m_given_arm) (dCons (dVar 0) (dNil))) (dCons (dOne (chkN 1 m_given_count) (dCons (dVar 1) (dNil))) (dNil)))) 2 (bCons (bName 0) (bCons (bName 1) (bNil)))) (dSeq (dAsg (dOne (chkN 1 m_one_neighbour) (dCons (dVar 0) (dNil))) (bName 2)) (dSeq (dPar 3 4 (dCons (dOne fLst (dNil)) (dCons (dOne fLst (dNil)) (dNil)))) (dSeq (dFor (dOne fZip (dCons (dVar 2) (dCons (dVar 0) (dNil)))) (bTup 2 (bCons (bName 5) (bCons (bName 6) (bNil)))) (dSeq (dIfS (dAnd (dTest (dOp fEq (dVar 6) (dC (.int 0)))) (dTest (dOp fGtA (dOne fAbs (dCons (dVar 5) (dNil))) (dVar 1)))) (dRet (dOne fLst (dNil))) (dNext)) (dIfS (dTest (dOp fNe (dVar 6) (dC (.int 0)))) (dSeq (dAsgA (dOne (chkN 3 m_multiples_within) (dCons (dVar 5) (dCons (dOp fMulC (dC (.int 2)) (dVar 6)) (dCons (dVar 1) (dNil))))) 2 (bCons (bName 7) (bCons (bName 8) (bNil)))) (dSeq (dExpr (dMeth isL fAppend (dVar 3) (dCons (dVar 7) (dNil)))) (dExpr (dMeth isL fAppend (dVar 4) (dCons (dVar 8) (dNil)))))) (dNext)))) (dSeq (dPar 7 8 (dCons (dOne fMax1 (dCons (dVar 3) (dNil))) (dCons (dOne fMinA (dCons (dVar 4) (dNil))) (dNil)))) (dSeq (dIfS (dTest (dOp fGe (dOp fSubA (dVar 8) (dVar 7)) (dC (.int 1000)))) (dRaise0 1) (dNext)) (dRet (dOne fSortC (dCons (dLc (dOne fRng2 (dCons (dVar 7) (dCons (dOp fAddA (dVar 8) (dC (.int 1))) (dNil)))) [9] (bName 9) (dK true) (dOne (chkN 1 m_signed_arm) (dCons (dOne (chkN 2 m_added) (dCons (dVar 2) (dCons (dOne (chkN 2 m_times) (dCons (dOp fMulC (dC (.int 2)) (dVar 9)) (dCons (dVar 0) (dNil)))) (dNil)))) (dNil)))) (dNil))))))))))
def m_root_of : List W → MH → Res W := mFun 1 0 (dRet (dOne (chkN 1 m_parities) (dCons (dOne (chkN 1 m_given_arm) (dCons (dVar 0) (dNil))) (dNil))))
def m_lengths_to : List W → MH → Res W := mFun 2 1 (dRet (dOne fSum (dCons (dLc (dOne fSrc (dVar 0)) [2] (bName 2) (dK true) (dOne (chkN 2 m_steps_apart) (dCons (dVar 2) (dCons (dVar 1) (dNil))))) (dNil))))
def m_sum_of_ways : List W → MH → Res W := mFun 2 0 (dSeq (dPar 0 1 (dCons (dOne (chkN 1 m_given_arms) (dCons (dVar 0) (dNil))) (dCons (dOne (chkN 1 m_given_arm) (dCons (dVar 1) (dNil))) (dNil)))) (dSeq (dExpr (dOne (chkN 1 m_check_kinds) (dCons (dOne fTup (dCons (dVar 1) (dStar (dVar 0) (dNil)))) (dNil)))) (dRet (dOne (chkN 2 m_lengths_to) (dCons (dVar 0) (dCons (dVar 1) (dNil)))))))
def m_arms_along : List W → MH → Res W := mFun 2 7 (dSeq (dAsg (dOne (chkN 2 m_runs_between) (dCons (dVar 0) (dCons (dVar 1) (dNil)))) (bName 2)) (dSeq (dAsg (dLc2 (dOne fSrc (dVar 2)) [4, 5, 6, 7] (bTup 3 (bCons (bName 4) (bCons (bName 5) (bCons (bName 6) (bNil))))) (dK true) (dOne fRng1 (dCons (dVar 6) (dNil))) [7] (bName 7) (dK true) (dOne (chkN 2 m_taken_off) (dCons (dVar 4) (dCons (dOne (chkN 2 m_times) (dCons (dVar 7) (dCons (dVar 5) (dNil)))) (dNil))))) (bName 3)) (dRet (dOne fTuple (dCons (dOp fAddA (dLc (dOne fSrc (dVar 3)) [8] (bName 8) (dK true) (dOne (chkN 1 m_signed_arm) (dCons (dVar 8) (dNil)))) (dOne fLst (dCons (dVar 1) (dNil)))) (dNil))))))
def m_way : List W → MH → Res W := mFun 2 0 (dSeq (dAsgA (dOne (chkN 2 m_given_alike) (dCons (dVar 0) (dCons (dVar 1) (dNil)))) 2 (bCons (bName 0) (bCons (bName 1) (bNil)))) (dSeq (dIfS (dTest (dOp fGe (dOne (chkN 2 m_steps_apart) (dCons (dVar 0) (dCons (dVar 1) (dNil)))) (dC (.int 2000)))) (dRaise0 1) (dNext)) (dRet (dOne (chkN 2 m_arms_along) (dCons (dVar 0) (dCons (dVar 1) (dNil)))))))
def tab2 : Nat → Option (Nat × (List W → MH → Res W))
  | 5 => some (2, m_neighbours)
  | 6 => some (2, m_base_of)
  | 7 => some (2, m_length)
  | 8 => some (2, m_way)
  | 9 => some (2, m_are_neighbours)
  | _ => none
def tab1 : Nat → Option (Nat × (List W → MH → Res W))
  | 2 => some (3, m_many_in_half)
  | 3 => some (3, m_is_in_half)
  | 4 => some (3, m_at_step)
  | _ => none
def tab3 : Nat → Option (Nat × (List W → MH → Res W))
  | 10 => some (1, m_depth)
  | 11 => some (1, m_root_of)
  | 12 => some (1, m_elder)
  | _ => none
def tab0 : Nat → Option (Nat × (List W → MH → Res W))
  | 0 => some (2, m_halves)
  | 1 => some (2, m_sum_of_ways)
  | _ => none
def m__law_told : List W → MH → Res W := mFun 4 0 (dSeq (dIfS (dTest (dOp fLtA (dVar 0) (dC (.int 3)))) (dRet (dCallV tab3 (dOp fIx (dOne fLst (dCons (dC (.fn 12)) (dCons (dC (.fn 11)) (dCons (dC (.fn 10)) (dNil))))) (dVar 0)) (dCons (dVar 1) (dNil)))) (dNext)) (dSeq (dIfS (dTest (dOp fLtA (dVar 0) (dC (.int 8)))) (dRet (dCallV tab2 (dOp fIx (dOne fLst (dCons (dC (.fn 9)) (dCons (dC (.fn 8)) (dCons (dC (.fn 7)) (dCons (dC (.fn 6)) (dCons (dC (.fn 5)) (dNil))))))) (dOp fSubA (dVar 0) (dC (.int 3)))) (dCons (dVar 1) (dCons (dVar 2) (dNil))))) (dNext)) (dSeq (dIfS (dTest (dOp fLtA (dVar 0) (dC (.int 11)))) (dRet (dCallV tab1 (dOp fIx (dOne fLst (dCons (dC (.fn 4)) (dCons (dC (.fn 3)) (dCons (dC (.fn 2)) (dNil))))) (dOp fSubA (dVar 0) (dC (.int 8)))) (dCons (dVar 1) (dCons (dVar 2) (dCons (dVar 3) (dNil)))))) (dNext)) (dRet (dIf (dTest (dOp fEq (dVar 0) (dC (.int 11)))) (dOne (chkN 1 m_median) (dCons (dVar 1) (dNil))) (dCallV tab0 (dOp fIx (dOne fLst (dCons (dC (.fn 1)) (dCons (dC (.fn 0)) (dNil)))) (dOp fSubA (dVar 0) (dC (.int 12)))) (dCons (dVar 1) (dCons (dVar 2) (dNil)))))))))
def m__law_heard : List W → MH → Res W := mFun 4 4 (dSeq (dAsg (dC .non) (bName 4)) (dSeq (dTry 3 (dAsg (dOne (chkN 4 m__law_told) (dCons (dVar 0) (dCons (dVar 1) (dCons (dVar 2) (dCons (dVar 3) (dNil)))))) (bName 4)) [(2, 5, suiteM (dAsg (dOne fLst (dCons (dC (.str "unfit")) (dCons (dC (.bl true)) (dNil)))) (bName 4))), (0, 6, suiteM (dAsg (dOne fLst (dCons (dC (.str "can not")) (dCons (dC (.bl true)) (dNil)))) (bName 4))), (1, 7, suiteM (dAsg (dOne fLst (dCons (dC (.str "many")) (dCons (dC (.bl true)) (dNil)))) (bName 4)))]) (dRet (dVar 4))))
def m__law_sameR : Nat → List W → MH → Res W
  | 0 => fun _ _ => .stuck
  | n + 1 => mFun 2 2 (dSeq (dIfS (dTest (dOne fIsi (dCons (dVar 1) (dCons (dOne fTup (dCons (dC (.ty .list)) (dCons (dC (.ty .tuple)) (dNil)))) (dNil))))) (dSeq (dIfS (dOr (dTest (dOp fNe (dOne fIsi (dCons (dVar 0) (dCons (dC (.ty .list)) (dNil)))) (dOne fIsi (dCons (dVar 1) (dCons (dC (.ty .list)) (dNil)))))) (dTest (dOp fNe (dOne fIsi (dCons (dVar 0) (dCons (dC (.ty .tuple)) (dNil)))) (dOne fIsi (dCons (dVar 1) (dCons (dC (.ty .tuple)) (dNil))))))) (dRet (dC (.bl false))) (dNext)) (dRet (dIf (dTest (dOp fEq (dOne fLen (dCons (dVar 0) (dNil))) (dOne fLen (dCons (dVar 1) (dNil))))) (dOne fAll (dCons (dLc (dOne fZip (dCons (dVar 0) (dCons (dVar 1) (dNil)))) [2, 3] (bTup 2 (bCons (bName 2) (bCons (bName 3) (bNil)))) (dK true) (dOne (chkN 2 (m__law_sameR n)) (dCons (dVar 2) (dCons (dVar 3) (dNil))))) (dNil))) (dC (.bl false))))) (dNext)) (dSeq (dIfS (dOr (dTest (dOp fIsN (dVar 1) (dC .non))) (dTest (dOne fIsi (dCons (dVar 1) (dCons (dOne fTup (dCons (dC (.ty .bool)) (dCons (dC (.ty .str)) (dNil)))) (dNil)))))) (dRet (dIf (dTest (dOp fEq (dVar 0) (dVar 1))) (dIf (dTest (dOp fEq (dOne fIsi (dCons (dVar 0) (dCons (dC (.ty .bool)) (dNil)))) (dOne fIsi (dCons (dVar 1) (dCons (dC (.ty .bool)) (dNil)))))) (dOp fEq (dOp fIsN (dVar 0) (dC .non)) (dOp fIsN (dVar 1) (dC .non))) (dC (.bl false))) (dC (.bl false)))) (dNext)) (dRet (dIf (dTest (dOne fIsi (dCons (dVar 0) (dCons (dC (.ty .int)) (dNil))))) (dIf (dTest (dOne fNotW (dOne fIsi (dCons (dVar 0) (dCons (dC (.ty .bool)) (dNil)))))) (dOp fEq (dVar 0) (dVar 1)) (dC (.bl false))) (dC (.bl false))))))
def m__law_same : List W → MH → Res W := m__law_sameR 8
def m__law_arms_right : List W → MH → Res W := mFun 1 6 (dSeq (dAsgA (dOne fTup (dCons (dOne fTup (dCons (dC (.int 1)) (dCons (dC (.int 0)) (dNil)))) (dCons (dOne fLst (dCons (dC (.str "unfit")) (dCons (dC (.bl true)) (dNil)))) (dCons (dOne fLst (dNil)) (dNil))))) 3 (bCons (bName 1) (bCons (bName 2) (bCons (bName 3) (bNil))))) (dSeq (dFor (dOne fSrc (dStepA (dOne fListRg (dC (.int 11))) (dPart (dVar 0)) (dNoPart) (dPart (dC (.int 2))))) (bName 4) (dAsg (dOp fAddA (dVar 3) (dLc (dOne fSrc (dCall0 m__law_bad_arms)) [6] (bName 6) (dK true) (dOne (chkN 4 m__law_heard) (dCons (dVar 4) (dCons (dVar 6) (dCons (dIf (dTest (dOp fNe (dVar 4) (dC (.int 7)))) (dOne fTup (dCons (dC (.int 1)) (dCons (dC (.int 1)) (dNil)))) (dC (.int 3))) (dCons (dIf (dTest (dOp fEq (dVar 4) (dC (.int 8)))) (dC (.int 0)) (dVar 1)) (dNil)))))))) (bName 3))) (dSeq (dFor (dOne fSrc (dStepA (dOne fLst (dCons (dC (.int 3)) (dCons (dC (.int 4)) (dCons (dC (.int 5)) (dCons (dC (.int 6)) (dCons (dC (.int 8)) (dCons (dC (.int 9)) (dCons (dC (.int 10)) (dNil))))))))) (dPart (dVar 0)) (dNoPart) (dPart (dC (.int 2))))) (bName 4) (dAsg (dOp fAddA (dVar 3) (dLc (dOne fSrc (dCall0 m__law_bad_arms)) [6] (bName 6) (dK true) (dOne (chkN 4 m__law_heard) (dCons (dVar 4) (dCons (dVar 1) (dCons (dVar 6) (dCons (dIf (dTest (dOp fEq (dVar 4) (dC (.int 8)))) (dC (.int 0)) (dVar 1)) (dNil)))))))) (bName 3))) (dSeq (dAsg (dOp fAddA (dOp fAddA (dVar 3) (dLc (dOne fSrc (dCall0 m__law_bad_arms)) [6] (bName 6) (dK true) (dOne (chkN 4 m__law_heard) (dCons (dC (.int 9)) (dCons (dVar 1) (dCons (dOne fTup (dCons (dC (.int 3)) (dCons (dC (.int 2)) (dNil)))) (dCons (dVar 6) (dNil)))))))) (dLc (dOne fSrc (dCall0 m__law_bad_arms)) [6] (bName 6) (dK true) (dOne (chkN 4 m__law_heard) (dCons (dC (.int 12)) (dCons (dOne fTup (dCons (dVar 1) (dNil))) (dCons (dVar 6) (dCons (dC .non) (dNil)))))))) (bName 3)) (dSeq (dAsg (dOne fLst (dCons (dC .non) (dCons (dOne fTup (dNil)) (dCons (dC (.int 3)) (dCons (dC (.str "ab")) (dCons (dOne fTup (dCons (dC (.int 1)) (dCons (dC (.int 0)) (dNil)))) (dCons (dOne fTup (dCons (dOne fTup (dCons (dC (.int 2)) (dCons (dC (.int 4)) (dNil)))) (dNil))) (dCons (dOne fTup (dCons (dVar 1) (dCons (dC .non) (dNil)))) (dCons (dOne fTup (dCons (dVar 1) (dCons (dOne fTup (dCons (dC (.int 0)) (dCons (dC (.int 0)) (dNil)))) (dNil)))) (dCons (dOne fTup (dCons (dOne fTup (dCons (dVar 1) (dNil))) (dNil))) (dNil))))))))))) (bName 5)) (dSeq (dFor (dOne fSrc (dOne fTup (dCons (dC (.int 11)) (dCons (dC (.int 12)) (dNil))))) (bName 4) (dAsg (dOp fAddA (dVar 3) (dLc (dOne fSrc (dVar 5)) [6] (bName 6) (dK true) (dOne (chkN 4 m__law_heard) (dCons (dVar 4) (dCons (dVar 6) (dCons (dVar 1) (dCons (dC .non) (dNil)))))))) (bName 3))) (dSeq (dAsg (dOp fAddA (dVar 3) (dLc (dOne fSrc (dVar 5)) [6] (bName 6) (dK true) (dOne (chkN 4 m__law_heard) (dCons (dC (.int 10)) (dCons (dVar 1) (dCons (dOne fTup (dCons (dC (.int 3)) (dCons (dC (.int 2)) (dNil)))) (dCons (dVar 6) (dNil)))))))) (bName 3)) (dRet (dOne (chkN 2 m__law_same) (dCons (dVar 3) (dCons (dOp fMulC (dOne fLst (dCons (dVar 2) (dNil))) (dOne fLen (dCons (dVar 3) (dNil)))) (dNil))))))))))))
def m__law_box : List W → MH → Res W := mFun 2 1 (dSeq (dAsg (dIf (dTest (dOp fLtA (dVar 1) (dOne fLen (dCons (dVar 0) (dNil))))) (dOp fIx (dVar 0) (dVar 1)) (dC (.int 0))) (bName 2)) (dRet (dOne fLst (dCons (dOp fMulC (dOne fAbs (dCons (dVar 2) (dNil))) (dOne fInt (dCons (dOp fGe (dOne fAbs (dCons (dVar 2) (dNil))) (dOp fPow (dC (.int 10)) (dC (.int 18)))) (dNil)))) (dCons (dOp fAddA (dOp fAddA (dOp fMod (dOne fInt (dCons (dVar 2) (dNil))) (dC (.int 2305843009213693951))) (dOp fMulC (dC (.int 39373)) (dVar 1))) (dC (.int 3191013))) (dCons (dC (.int 0)) (dNil)))))))
def m__law_cells : List W → MH → Res W := mFun 2 4 (dSeq (dAsg (dOrT (dOne fList (dCons (dSl (dVar 0) (dNoPart) (dPart (dVar 1))) (dNil))) (dOne fLst (dCons (dC (.int 0)) (dNil)))) (bName 2)) (dSeq (dFor (dOne fEnum (dCons (dSl (dVar 0) (dPart (dVar 1)) (dPart (dC (.int 63)))) (dNil))) (bTup 2 (bCons (bName 3) (bCons (bName 4) (bNil)))) (dSeq (dAsg (dOp fMod (dOne fInt (dCons (dVar 3) (dNil))) (dVar 1)) (bName 5)) (dSetIx (dOp fAddA (dOp fIx (dVar 2) (dVar 5)) (dOp fMulC (dVar 4) (dOp fAddA (dVar 3) (dC (.int 2))))) (dVar 2) (dVar 5)))) (dRet (dVar 2))))
def m__law_rest_right : List W → MH → Res W := mFun 0 9 (dSeq (dAsgA (dOne fTup (dCons (dOne fTup (dCons (dC (.int 1)) (dCons (dC (.int 0)) (dNil)))) (dCons (dOne fLst (dCons (dC (.str "unfit")) (dCons (dC (.bl true)) (dNil)))) (dCons (dOne fLst (dCons (dC (.str "can not")) (dCons (dC (.bl true)) (dNil)))) (dNil))))) 3 (bCons (bName 0) (bCons (bName 1) (bCons (bName 2) (bNil))))) (dSeq (dAsg (dOp fAddA (dLc (dOne fSrc (dOne fTup (dCons (dOne fNeg (dC (.int 1))) (dCons (dC .non) (dCons (dC (.bl true)) (dCons (dC (.str "2")) (dCons (dOne fTup (dCons (dC (.int 2)) (dNil))) (dNil)))))))) [7] (bName 7) (dK true) (dOne (chkN 4 m__law_heard) (dCons (dC (.int 7)) (dCons (dVar 0) (dCons (dVar 7) (dCons (dC .non) (dNil))))))) (dLc (dOne fSrc (dOne fTup (dCons (dOne fNeg (dC (.int 1))) (dCons (dC .non) (dCons (dC (.bl true)) (dCons (dC (.str "2")) (dNil))))))) [7] (bName 7) (dK true) (dOne (chkN 4 m__law_heard) (dCons (dC (.int 8)) (dCons (dOne fTup (dCons (dC (.int 5)) (dCons (dC (.int 4)) (dNil)))) (dCons (dVar 0) (dCons (dVar 7) (dNil)))))))) (bName 3)) (dSeq (dAsgA (dOne fTup (dCons (dOne fTup (dCons (dOne fTup (dCons (dC (.int 0)) (dCons (dC (.int 0)) (dNil)))) (dCons (dOne fTup (dCons (dC (.int 1)) (dCons (dC (.int 1)) (dNil)))) (dNil)))) (dCons (dOne fLst (dCons (dC .non) (dCons (dOne fTup (dNil)) (dCons (dOne fTup (dCons (dOne fTup (dCons (dC (.int 0)) (dCons (dC (.int 0)) (dNil)))) (dNil))) (dCons (dOne fTup (dCons (dOne fTup (dCons (dC (.int 1)) (dCons (dC (.int 1)) (dNil)))) (dCons (dOne fTup (dCons (dC (.int 0)) (dCons (dC (.int 0)) (dNil)))) (dNil)))) (dCons (dOne fTup (dCons (dOne fTup (dCons (dC (.int 0)) (dCons (dC (.int 0)) (dNil)))) (dCons (dOne fTup (dCons (dC (.int 2)) (dCons (dC (.int 2)) (dNil)))) (dNil)))) (dCons (dOne fTup (dCons (dOne fTup (dCons (dC (.int 0)) (dCons (dC (.int 0)) (dNil)))) (dCons (dOne fTup (dCons (dC (.int 0)) (dCons (dC (.int 0)) (dNil)))) (dNil)))) (dCons (dOne fTup (dCons (dC (.int 0)) (dCons (dC (.int 0)) (dCons (dC (.int 1)) (dCons (dC (.int 1)) (dNil)))))) (dCons (dOne fTup (dCons (dOne fTup (dCons (dC (.int 0)) (dCons (dC (.int 0)) (dNil)))) (dCons (dOne fTup (dCons (dC (.int 1)) (dCons (dC (.bl true)) (dNil)))) (dNil)))) (dCons (dC (.str "ab")) (dNil))))))))))) (dNil)))) 2 (bCons (bName 4) (bCons (bName 5) (bNil)))) (dSeq (dAsg (dOp fAddA (dOp fAddA (dVar 3) (dLc (dOne fSrc (dVar 5)) [7] (bName 7) (dK true) (dOne (chkN 4 m__law_heard) (dCons (dC (.int 13)) (dCons (dVar 7) (dCons (dVar 4) (dCons (dC .non) (dNil)))))))) (dLc (dOne fSrc (dVar 5)) [7] (bName 7) (dK true) (dOne (chkN 4 m__law_heard) (dCons (dC (.int 13)) (dCons (dVar 4) (dCons (dVar 7) (dCons (dC .non) (dNil)))))))) (bName 3)) (dSeq (dAsg (dOp fAddA (dVar 3) (dOne fLst (dCons (dOne (chkN 4 m__law_heard) (dCons (dC (.int 8)) (dCons (dVar 0) (dCons (dOne fTup (dCons (dC (.int 1)) (dCons (dC (.int 1)) (dNil)))) (dCons (dOne fNeg (dC (.int 1))) (dNil)))))) (dCons (dOne (chkN 4 m__law_heard) (dCons (dC (.int 9)) (dCons (dVar 0) (dCons (dOne fTup (dCons (dC (.int 1)) (dCons (dC (.int 1)) (dNil)))) (dCons (dOne fTup (dCons (dC (.int 2)) (dCons (dC (.int 2)) (dNil)))) (dNil)))))) (dCons (dOne (chkN 4 m__law_heard) (dCons (dC (.int 10)) (dCons (dVar 0) (dCons (dOne fTup (dCons (dC (.int 5)) (dCons (dC (.int 4)) (dNil)))) (dCons (dOne fTup (dNil)) (dNil)))))) (dNil)))))) (bName 3)) (dSeq (dIfS (dNot (dTest (dOne (chkN 2 m__law_same) (dCons (dVar 3) (dCons (dOp fMulC (dOne fLst (dCons (dVar 1) (dNil))) (dOne fLen (dCons (dVar 3) (dNil)))) (dNil)))))) (dRet (dC (.bl false))) (dNext)) (dSeq (dAsg (dOp fAddA (dLc (dOne fSrc (dOne fTup (dCons (dC (.int 4)) (dCons (dC (.int 5)) (dCons (dC (.int 6)) (dCons (dC (.int 8)) (dNil))))))) [8] (bName 8) (dK true) (dOne (chkN 4 m__law_heard) (dCons (dVar 8) (dCons (dVar 0) (dCons (dOne fTup (dCons (dC (.int 1)) (dCons (dC (.int 1)) (dNil)))) (dCons (dC (.int 0)) (dNil))))))) (dLc (dOne fSrc (dOne fTup (dCons (dOne fTup (dCons (dC (.int 5)) (dCons (dC (.int 4)) (dNil)))) (dCons (dVar 0) (dCons (dOne fTup (dCons (dC (.int 0)) (dCons (dC (.int 1)) (dNil)))) (dNil)))))) [7] (bName 7) (dK true) (dOne (chkN 4 m__law_heard) (dCons (dC (.int 6)) (dCons (dVar 0) (dCons (dVar 7) (dCons (dC .non) (dNil)))))))) (bName 3)) (dSeq (dAsg (dOp fAddA (dOp fAddA (dVar 3) (dLc (dOne fSrc (dOne fTup (dCons (dC (.int 4)) (dCons (dOp fPow (dC (.int 10)) (dC (.int 6))) (dNil))))) [7] (bName 7) (dK true) (dOne (chkN 4 m__law_heard) (dCons (dC (.int 8)) (dCons (dOne fTup (dCons (dC (.int 5)) (dCons (dC (.int 4)) (dNil)))) (dCons (dOne fTup (dCons (dC (.int 3)) (dCons (dOne fNeg (dC (.int 2))) (dNil)))) (dCons (dVar 7) (dNil)))))))) (dOne fLst (dCons (dOne (chkN 4 m__law_heard) (dCons (dC (.int 9)) (dCons (dVar 0) (dCons (dOne fTup (dCons (dC (.int 5)) (dCons (dC (.int 4)) (dNil)))) (dCons (dVar 0) (dNil)))))) (dCons (dOne (chkN 4 m__law_heard) (dCons (dC (.int 9)) (dCons (dVar 0) (dCons (dOne fTup (dCons (dC (.int 3)) (dCons (dC (.int 2)) (dNil)))) (dCons (dOne fTup (dCons (dC (.int 1)) (dCons (dC (.int 1)) (dNil)))) (dNil)))))) (dNil))))) (bName 3)) (dSeq (dAsg (dOp fAddA (dVar 3) (dOne fLst (dCons (dOne (chkN 4 m__law_heard) (dCons (dC (.int 10)) (dCons (dVar 0) (dCons (dVar 0) (dCons (dOne fTup (dCons (dVar 0) (dNil))) (dNil)))))) (dCons (dOne (chkN 4 m__law_heard) (dCons (dC (.int 10)) (dCons (dVar 0) (dCons (dOne fTup (dCons (dC (.int 3)) (dCons (dC (.int 2)) (dNil)))) (dCons (dOne fTup (dCons (dVar 0) (dCons (dOne fTup (dCons (dC (.int 0)) (dCons (dC (.int 1)) (dNil)))) (dNil)))) (dNil)))))) (dCons (dOne (chkN 4 m__law_heard) (dCons (dC (.int 11)) (dCons (dOne fTup (dCons (dVar 0) (dCons (dOne fTup (dCons (dC (.int 3)) (dCons (dC (.int 2)) (dNil)))) (dNil)))) (dCons (dC .non) (dCons (dC .non) (dNil)))))) (dNil)))))) (bName 3)) (dSeq (dAsg (dOp fAddA (dVar 3) (dOne fLst (dCons (dOne (chkN 4 m__law_heard) (dCons (dC (.int 11)) (dCons (dOne fTup (dCons (dVar 0) (dCons (dVar 0) (dCons (dOne fTup (dCons (dC (.int 1)) (dCons (dC (.int 1)) (dNil)))) (dNil))))) (dCons (dC .non) (dCons (dC .non) (dNil)))))) (dCons (dOne (chkN 4 m__law_heard) (dCons (dC (.int 12)) (dCons (dOne fTup (dCons (dVar 0) (dCons (dOne fTup (dCons (dC (.int 1)) (dCons (dC (.int 1)) (dNil)))) (dNil)))) (dCons (dVar 0) (dCons (dC .non) (dNil)))))) (dCons (dOne (chkN 4 m__law_heard) (dCons (dC (.int 12)) (dCons (dOne fTup (dCons (dVar 0) (dNil))) (dCons (dOne fTup (dCons (dC (.int 0)) (dCons (dC (.int 1)) (dNil)))) (dCons (dC .non) (dNil)))))) (dNil)))))) (bName 3)) (dSeq (dAsg (dOne fLst (dCons (dOne fTup (dCons (dOne fTup (dCons (dC (.int 0)) (dCons (dC (.int 1)) (dNil)))) (dCons (dOne fTup (dCons (dC (.int 1)) (dCons (dC (.int 0)) (dNil)))) (dNil)))) (dCons (dOne fTup (dCons (dOne fTup (dCons (dC (.int 1)) (dCons (dC (.int 0)) (dNil)))) (dCons (dOne fTup (dCons (dC (.int 2)) (dCons (dC (.int 1)) (dNil)))) (dNil)))) (dCons (dOne fTup (dCons (dOne fTup (dCons (dC (.int 0)) (dCons (dC (.int 0)) (dNil)))) (dCons (dOne fTup (dCons (dC (.int 1)) (dCons (dC (.int 0)) (dNil)))) (dNil)))) (dCons (dVar 4) (dCons (dOne fTup (dCons (dOne fTup (dCons (dC (.int 1)) (dCons (dC (.int 1)) (dNil)))) (dCons (dOne fTup (dCons (dC (.int 2)) (dCons (dC (.int 2)) (dNil)))) (dNil)))) (dCons (dOne fTup (dCons (dOne fTup (dCons (dC (.int 5)) (dCons (dC (.int 5)) (dNil)))) (dCons (dOne fTup (dCons (dC (.int 6)) (dCons (dC (.int 7)) (dNil)))) (dNil)))) (dNil)))))))) (bName 6)) (dSeq (dAsg (dOp fAddA (dVar 3) (dLc (dOne fSrc (dVar 6)) [7] (bName 7) (dK true) (dOne (chkN 4 m__law_heard) (dCons (dC (.int 13)) (dCons (dVar 4) (dCons (dVar 7) (dCons (dC .non) (dNil)))))))) (bName 3)) (dSeq (dIfS (dNot (dTest (dOne (chkN 2 m__law_same) (dCons (dVar 3) (dCons (dOp fMulC (dOne fLst (dCons (dVar 2) (dNil))) (dOne fLen (dCons (dVar 3) (dNil)))) (dNil)))))) (dRet (dC (.bl false))) (dNext)) (dRet (dOne (chkN 2 m__law_same) (dCons (dOp fAddA (dLc (dOne fSrc (dOne fTup (dCons (dC (.int 5000)) (dCons (dOp fPow (dC (.int 10)) (dC (.int 6))) (dNil))))) [7] (bName 7) (dK true) (dOne (chkN 4 m__law_heard) (dCons (dC (.int 7)) (dCons (dVar 0) (dCons (dVar 7) (dCons (dC .non) (dNil))))))) (dOne fLst (dCons (dOne (chkN 4 m__law_heard) (dCons (dC (.int 4)) (dCons (dOne fTup (dCons (dOp fPow (dC (.int 10)) (dC (.int 6))) (dCons (dC (.int 1)) (dNil)))) (dCons (dOne fTup (dCons (dC (.int 0)) (dCons (dC (.int 1)) (dNil)))) (dCons (dC .non) (dNil)))))) (dNil)))) (dCons (dOp fMulC (dOne fLst (dCons (dOne fLst (dCons (dC (.str "many")) (dCons (dC (.bl true)) (dNil)))) (dNil))) (dC (.int 3))) (dNil))))))))))))))))))
def m__law_take : List W → MH → Res W := mFun 2 4 (dSeq (dIfS (dTest (dOp fGtA (dOp fIx (dVar 0) (dC (.int 0))) (dC (.int 0)))) (dSeq (dAsg (dOp fMod (dOne fInt (dCons (dOp fIx (dVar 0) (dC (.int 0))) (dNil))) (dVar 1)) (bName 2)) (dSeq (dSetIx (dOp fDivB (dOp fIx (dVar 0) (dC (.int 0))) (dVar 1)) (dVar 0) (dC (.int 0))) (dRet (dVar 2)))) (dNext)) (dSeq (dSetIx (dOp fAddA (dOp fIx (dVar 0) (dC (.int 2))) (dC (.int 1))) (dVar 0) (dC (.int 2))) (dSeq (dAsg (dOp fMod (dOne fInt (dCons (dOp fMulC (dOp fAddA (dOp fIx (dVar 0) (dC (.int 1))) (dOp fMulC (dC (.int 48271)) (dOp fIx (dVar 0) (dC (.int 2))))) (dOp fAddA (dC (.int 39373)) (dOp fIx (dVar 0) (dC (.int 2))))) (dNil))) (dC (.int 2147483647))) (bName 3)) (dSeq (dAsg (dOp fAddA (dOp fMod (dOne fInt (dCons (dVar 3) (dNil))) (dC (.int 40009))) (dC (.int 7))) (bName 4)) (dSeq (dAsg (dOp fMod (dOne fInt (dCons (dOp fMulC (dOp fAddA (dOp fAddA (dVar 3) (dOp fIx (dVar 0) (dC (.int 2)))) (dOp fDivB (dOp fIx (dVar 0) (dC (.int 1))) (dC (.int 1000003)))) (dVar 4)) (dNil))) (dC (.int 2147483629))) (bName 5)) (dRet (dOp fMod (dOne fInt (dCons (dOp fDivB (dOp fMod (dOne fInt (dCons (dOp fAddA (dOp fMulC (dVar 5) (dC (.int 48271))) (dVar 3)) (dNil))) (dC (.int 2147483587))) (dC (.int 64))) (dNil))) (dVar 1))))))))
def m__law_values_right : List W → MH → Res W := mFun 0 5 (dSeq (dAsgA (dOne fTup (dCons (dOne fLst (dCons (dC (.int 1)) (dCons (dC (.int 0)) (dNil)))) (dCons (dOne fLst (dCons (dC (.int 5)) (dCons (dC (.int 4)) (dNil)))) (dNil)))) 2 (bCons (bName 0) (bCons (bName 1) (bNil)))) (dSeq (dAsg (dOp fAddA (dLc (dOne fSrc (dOne fTup (dCons (dC (.int 0)) (dCons (dC (.int 1)) (dCons (dC (.int 2)) (dCons (dC (.int 3)) (dCons (dC (.int 4)) (dCons (dC (.int 5)) (dNil))))))))) [4] (bName 4) (dK true) (dOne (chkN 4 m__law_heard) (dCons (dVar 4) (dCons (dVar 1) (dCons (dVar 0) (dCons (dC .non) (dNil))))))) (dOne fLst (dCons (dOne (chkN 4 m__law_heard) (dCons (dC (.int 6)) (dCons (dVar 1) (dCons (dOne fLst (dCons (dC (.int 3)) (dCons (dC (.int 2)) (dNil)))) (dCons (dC .non) (dNil)))))) (dCons (dOne (chkN 4 m__law_heard) (dCons (dC (.int 7)) (dCons (dVar 0) (dCons (dC (.int 2)) (dCons (dC .non) (dNil)))))) (dNil))))) (bName 2)) (dSeq (dAsg (dOne fLst (dCons (dOne fTup (dCons (dC (.int 3)) (dCons (dC (.int 2)) (dNil)))) (dCons (dOne fTup (dCons (dC (.int 1)) (dCons (dC (.int 0)) (dNil)))) (dCons (dC (.int 2)) (dCons (dC (.bl false)) (dCons (dOne fTup (dCons (dOne fTup (dCons (dC (.int 5)) (dCons (dC (.int 4)) (dNil)))) (dCons (dOne fTup (dCons (dC (.int 3)) (dCons (dC (.int 2)) (dNil)))) (dCons (dOne fTup (dCons (dC (.int 1)) (dCons (dC (.int 0)) (dNil)))) (dNil))))) (dCons (dC (.int 2)) (dCons (dOne fTup (dCons (dOne fTup (dCons (dC (.int 1)) (dCons (dC (.int 1)) (dNil)))) (dCons (dOne fTup (dCons (dC (.int 4)) (dCons (dC (.int 3)) (dNil)))) (dNil)))) (dCons (dOne fLst (dCons (dOne fTup (dCons (dC (.int 1)) (dCons (dOne fNeg (dC (.int 2))) (dNil)))) (dCons (dOne fTup (dCons (dC (.int 1)) (dCons (dC (.int 2)) (dNil)))) (dNil)))) (dNil)))))))))) (bName 3)) (dSeq (dAsg (dOp fAddA (dVar 2) (dOne fLst (dCons (dOne (chkN 4 m__law_heard) (dCons (dC (.int 8)) (dCons (dVar 1) (dCons (dVar 0) (dCons (dC (.int 1)) (dNil)))))) (dCons (dOne (chkN 4 m__law_heard) (dCons (dC (.int 9)) (dCons (dVar 1) (dCons (dOne fLst (dCons (dC (.int 3)) (dCons (dC (.int 2)) (dNil)))) (dCons (dVar 0) (dNil)))))) (dCons (dOne (chkN 4 m__law_heard) (dCons (dC (.int 10)) (dCons (dOne fLst (dCons (dC (.int 3)) (dCons (dC (.int 2)) (dNil)))) (dCons (dVar 1) (dCons (dOne fLst (dCons (dVar 0) (dCons (dVar 1) (dNil)))) (dNil)))))) (dCons (dOne (chkN 4 m__law_heard) (dCons (dC (.int 11)) (dCons (dOne fLst (dCons (dVar 1) (dNil))) (dCons (dC .non) (dCons (dC .non) (dNil)))))) (dNil))))))) (bName 2)) (dSeq (dAsg (dOp fAddA (dVar 3) (dOne fLst (dCons (dOne fTup (dCons (dC (.int 3)) (dCons (dC (.int 2)) (dNil)))) (dCons (dC (.bl false)) (dCons (dC (.int 1)) (dCons (dOne fTup (dCons (dC (.int 5)) (dCons (dC (.int 4)) (dNil)))) (dNil))))))) (bName 3)) (dSeq (dAsg (dOp fAddA (dVar 2) (dOne fLst (dCons (dOne (chkN 4 m__law_heard) (dCons (dC (.int 12)) (dCons (dOne fLst (dCons (dVar 1) (dCons (dVar 0) (dNil)))) (dCons (dVar 0) (dCons (dC .non) (dNil)))))) (dCons (dOne (chkN 4 m__law_heard) (dCons (dC (.int 13)) (dCons (dOne fLst (dCons (dOne fLst (dCons (dC (.int 0)) (dCons (dC (.int 0)) (dNil)))) (dCons (dOne fLst (dCons (dC (.int 1)) (dCons (dC (.int 1)) (dNil)))) (dNil)))) (dCons (dOne fLst (dCons (dOne fLst (dCons (dC (.int 0)) (dCons (dC (.int 1)) (dNil)))) (dCons (dOne fLst (dCons (dC (.int 2)) (dCons (dC (.int 0)) (dNil)))) (dNil)))) (dCons (dC .non) (dNil)))))) (dCons (dOne fLen (dCons (dOne (chkN 4 m__law_heard) (dCons (dC (.int 7)) (dCons (dVar 0) (dCons (dC (.int 999)) (dCons (dC .non) (dNil)))))) (dNil))) (dCons (dOne fLen (dCons (dOne (chkN 4 m__law_heard) (dCons (dC (.int 7)) (dCons (dVar 0) (dCons (dC (.int 500)) (dCons (dC .non) (dNil)))))) (dNil))) (dNil))))))) (bName 2)) (dRet (dOne (chkN 2 m__law_same) (dCons (dVar 2) (dCons (dOp fAddA (dVar 3) (dOne fLst (dCons (dC (.int 2)) (dCons (dOne fTup (dCons (dOne fTup (dCons (dOne fTup (dCons (dC (.int 1)) (dCons (dC (.int 1)) (dNil)))) (dCons (dOne fTup (dCons (dC (.int 1)) (dCons (dOne fNeg (dC (.int 1))) (dNil)))) (dNil)))) (dCons (dOne fTup (dCons (dOne fTup (dCons (dC (.int 2)) (dCons (dOne fNeg (dC (.int 1))) (dNil)))) (dCons (dOne fTup (dCons (dC (.int 0)) (dCons (dC (.int 1)) (dNil)))) (dNil)))) (dNil)))) (dCons (dC (.int 1000)) (dCons (dC (.int 500)) (dNil))))))) (dNil)))))))))))
def m_law : List W → MH → Res W := mFun 1 1 (dSeq (dAsg (dOne (chkN 2 m__law_take) (dCons (dOne (chkN 2 m__law_box) (dCons (dOne (chkN 2 m__law_cells) (dCons (dVar 0) (dCons (dC (.int 1)) (dNil)))) (dCons (dC (.int 0)) (dNil)))) (dCons (dC (.int 2)) (dNil)))) (bName 1)) (dRet (dIf (dTest (dCall0 (mIso m__law_values_right))) (dIf (dTest (dCall0 (mIso m__law_rest_right))) (dOne (chkN 1 (mIso m__law_arms_right)) (dCons (dVar 1) (dNil))) (dC (.bl false))) (dC (.bl false)))))
end M.K13

set_option Elab.async false
set_option linter.all false
set_option maxRecDepth 100000
set_option maxHeartbeats 4000000
namespace M.K13
open PySem PySem.Spec PyProof.Rows L2
def top (i : Nat) : Stmt := PySem.Challenge.pw_middledots_k13_arms_and_halves_refused.main.body.getD i (.Pass ⟨0, 0, 0, 0⟩)
structure Txt (g : Gd) (mg : Str → Option Value) : Prop where
  d__law_bad_arms : DefAt g.K mg "_law_bad_arms" (top 71) []
  d_outer : DefAt g.K mg "outer" (top 18) ["one", "two"]
  d_are_near : DefAt g.K mg "are_near" (top 41) ["arm", "other"]
  d_is_number : DefAt g.K mg "is_number" (top 6) ["value"]
  d_fits_pair : DefAt g.K mg "fits_pair" (top 8) ["thing"]
  d_fits_arm : DefAt g.K mg "fits_arm" (top 9) ["thing"]
  d_fits_edge : DefAt g.K mg "fits_edge" (top 10) ["thing"]
  d_tupled : DefAt g.K mg "tupled" (top 7) ["value", "levels"]
  d_given : DefAt g.K mg "given" (top 11) ["value", "levels", "fits"]
  d_given_arm : DefAt g.K mg "given_arm" (top 13) ["value"]
  d_are_neighbours : DefAt g.K mg "are_neighbours" (top 42) ["arm", "other"]
  d_times : DefAt g.K mg "times" (top 21) ["number", "pair"]
  d_signed_arm : DefAt g.K mg "signed_arm" (top 22) ["pair"]
  d_taken_off : DefAt g.K mg "taken_off" (top 20) ["one", "two"]
  d_arm_on : DefAt g.K mg "arm_on" (top 37) ["runs", "other", "number"]
  d_parities : DefAt g.K mg "parities" (top 23) ["pair"]
  d_given_alike : DefAt g.K mg "given_alike" (top 47) ["arm", "other"]
  d_given_count : DefAt g.K mg "given_count" (top 16) ["value"]
  d_inner : DefAt g.K mg "inner" (top 28) ["one", "two"]
  d_added : DefAt g.K mg "added" (top 19) ["one", "two"]
  d_mate_of : DefAt g.K mg "mate_of" (top 29) ["arm"]
  d_one_neighbour : DefAt g.K mg "one_neighbour" (top 30) ["arm"]
  d_elder_pair : DefAt g.K mg "elder_pair" (top 33) ["pair"]
  d_least_pair : DefAt g.K mg "least_pair" (top 32) ["pair"]
  d_told_back : DefAt g.K mg "told_back" (top 35) ["pair", "first", "second"]
  d_runs_between : DefAt g.K mg "runs_between" (top 34) ["arm", "other"]
  d_steps_of : DefAt g.K mg "steps_of" (top 36) ["runs"]
  d_at_step : DefAt g.K mg "at_step" (top 50) ["arm", "other", "number"]
  d_base_between : DefAt g.K mg "base_between" (top 53) ["arm", "other"]
  d_base_of : DefAt g.K mg "base_of" (top 55) ["arm", "other"]
  d_steps_apart : DefAt g.K mg "steps_apart" (top 38) ["arm", "other"]
  d_depth : DefAt g.K mg "depth" (top 46) ["arm"]
  d_elder : DefAt g.K mg "elder" (top 44) ["arm"]
  d_given_edge : DefAt g.K mg "given_edge" (top 14) ["value"]
  d_half_away : DefAt g.K mg "half_away" (top 63) ["arm", "far"]
  d_part_each_other : DefAt g.K mg "part_each_other" (top 24) ["way", "other"]
  d_halves : DefAt g.K mg "halves" (top 62) ["edge", "other"]
  d_check_kinds : DefAt g.K mg "check_kinds" (top 52) ["arms"]
  d_stands_in_half : DefAt g.K mg "stands_in_half" (top 54) ["base", "third"]
  d_is_in_half : DefAt g.K mg "is_in_half" (top 56) ["arm", "other", "third"]
  d_length : DefAt g.K mg "length" (top 49) ["arm", "other"]
  d_given_all : DefAt g.K mg "given_all" (top 12) ["value", "levels", "fits"]
  d_given_arms : DefAt g.K mg "given_arms" (top 15) ["value"]
  d_many_in_half : DefAt g.K mg "many_in_half" (top 57) ["arm", "other", "arms"]
  d_arm_between : DefAt g.K mg "arm_between" (top 40) ["arm", "other", "number"]
  d_median_among : DefAt g.K mg "median_among" (top 61) ["arms"]
  d_median : DefAt g.K mg "median" (top 60) ["arms"]
  d_multiples_within : DefAt g.K mg "multiples_within" (top 31) ["start", "step", "most"]
  d_neighbours : DefAt g.K mg "neighbours" (top 43) ["arm", "most"]
  d_root_of : DefAt g.K mg "root_of" (top 45) ["arm"]
  d_lengths_to : DefAt g.K mg "lengths_to" (top 59) ["arms", "arm"]
  d_sum_of_ways : DefAt g.K mg "sum_of_ways" (top 58) ["arms", "arm"]
  d_arms_along : DefAt g.K mg "arms_along" (top 39) ["arm", "other"]
  d_way : DefAt g.K mg "way" (top 48) ["arm", "other"]
  d__law_told : DefAt g.K mg "_law_told" (top 69) ["door", "one_so", "two_so", "three_so"]
  d__law_heard : DefAt g.K mg "_law_heard" (top 70) ["door", "one_so", "two_so", "three_so"]
  d__law_same : DefAt g.K mg "_law_same" (top 68) ["got", "due"]
  d__law_arms_right : DefAt g.K mg "_law_arms_right" (top 72) ["first_so"]
  d__law_box : DefAt g.K mg "_law_box" (top 65) ["script", "k"]
  d__law_cells : DefAt g.K mg "_law_cells" (top 67) ["script", "most_so"]
  d__law_rest_right : DefAt g.K mg "_law_rest_right" (top 73) []
  d__law_take : DefAt g.K mg "_law_take" (top 66) ["tin", "below_so"]
  d__law_values_right : DefAt g.K mg "_law_values_right" (top 74) []
  d_law : DefAt g.K mg "law" (top 75) ["script"]
  v_halves : mg "halves" = some (.ref (g.fad 0))
  v_sum_of_ways : mg "sum_of_ways" = some (.ref (g.fad 1))
  v_many_in_half : mg "many_in_half" = some (.ref (g.fad 2))
  v_is_in_half : mg "is_in_half" = some (.ref (g.fad 3))
  v_at_step : mg "at_step" = some (.ref (g.fad 4))
  v_neighbours : mg "neighbours" = some (.ref (g.fad 5))
  v_base_of : mg "base_of" = some (.ref (g.fad 6))
  v_length : mg "length" = some (.ref (g.fad 7))
  v_way : mg "way" = some (.ref (g.fad 8))
  v_are_neighbours : mg "are_neighbours" = some (.ref (g.fad 9))
  v_depth : mg "depth" = some (.ref (g.fad 10))
  v_root_of : mg "root_of" = some (.ref (g.fad 11))
  v_elder : mg "elder" = some (.ref (g.fad 12))
  v_fits_arm : mg "fits_arm" = some (.ref (g.fad 13))
  v_fits_edge : mg "fits_edge" = some (.ref (g.fad 14))
  z_ValueError : mg "ValueError" = none
  z_abs : mg "abs" = none
  z_all : mg "all" = none
  z_bool : mg "bool" = none
  z_enumerate : mg "enumerate" = none
  z_int : mg "int" = none
  z_isinstance : mg "isinstance" = none
  z_len : mg "len" = none
  z_list : mg "list" = none
  z_max : mg "max" = none
  z_min : mg "min" = none
  z_range : mg "range" = none
  z_set : mg "set" = none
  z_sorted : mg "sorted" = none
  z_str : mg "str" = none
  z_sum : mg "sum" = none
  z_tuple : mg "tuple" = none
  z_zip : mg "zip" = none
  c_MOST_NEIGHBOURS : ∃ t, mg "MOST_NEIGHBOURS" = some (.int 1000 t)
  c_MOST_ARMS : ∃ t, mg "MOST_ARMS" = some (.int 2000 t)
  c_gcd : mg "gcd" = some (.builtin "math.gcd")
  x_CanNot : ExcAt g mg "CanNot" 0
  x_TooMany : ExcAt g mg "TooMany" 1
  x_Unfit : ExcAt g mg "Unfit" 2
  hx : ∀ c k, c < 3 → k < 3 → PySem.W.exmOne g.K (.ref (g.cad c)) (.ref (g.cad k)) = some (Nat.beq c k)
section
variable {P : Program} {w : World} {mg : Str → Option Value} {base : Heap} {g : Gd}
theorem sc__law_bad_arms : FnScope ([] : List Str) ([] : List Str) (defScope (top 71)) := ⟨rfl, rfl, rfl, by decide +kernel, rfl, by decide +kernel, by decide +kernel⟩
theorem ok__law_bad_arms (T : Txt g mg) : Ok g P w mg base "_law_bad_arms" m__law_bad_arms 0 1 := ok_def (k := 0) T.d__law_bad_arms sc__law_bad_arms 0 0 rfl rfl fun f cdv A outer s H E hr => by
  exact (ms_one (ms_ret (m_lst (ma_cons m_non (ma_cons m_int (ma_cons m_str (ma_cons (m_tup ma_nil) (ma_cons (m_tup (ma_cons m_int (ma_cons m_int ma_nil))) (ma_cons (m_tup (ma_cons (m_neg m_int) (ma_cons m_int ma_nil))) (ma_cons (m_tup (ma_cons m_int (ma_cons (m_neg m_int) ma_nil))) (ma_cons (m_tup (ma_cons m_int (ma_cons m_int ma_nil))) (ma_cons (m_tup (ma_cons m_int (ma_cons m_int ma_nil))) (ma_cons (m_tup (ma_cons m_int ma_nil)) (ma_cons (m_tup (ma_cons m_int (ma_cons m_int (ma_cons m_int ma_nil)))) (ma_cons (m_tup (ma_cons m_bl (ma_cons m_int ma_nil))) (ma_cons (m_tup (ma_cons m_int (ma_cons m_non ma_nil))) (ma_cons (m_tup (ma_cons (m_tup (ma_cons m_int (ma_cons m_int ma_nil))) ma_nil)) ma_nil)))))))))))))))))
theorem sc_outer : FnScope ["one", "two"] ["one", "two"] (defScope (top 18)) := ⟨rfl, rfl, rfl, by decide +kernel, rfl, by decide +kernel, by decide +kernel⟩
theorem ok_outer (T : Txt g mg) : Ok g P w mg base "outer" m_outer 2 1 := ok_def (k := 0) T.d_outer sc_outer 2 0 rfl rfl fun f cdv A outer s H E hr => by
  exact (ms_one (ms_ret (m_subA (m_mulC (m_ix rfl (mv 0) m_int) (m_ix rfl (mv 1) m_int)) (m_mulC (m_ix rfl (mv 0) m_int) (m_ix rfl (mv 1) m_int)))))
theorem sc_are_near : FnScope ["arm", "other"] ["arm", "other"] (defScope (top 41)) := ⟨rfl, rfl, rfl, by decide +kernel, rfl, by decide +kernel, by decide +kernel⟩
theorem ok_are_near (T : Txt g mg) : Ok g P w mg base "are_near" m_are_near 2 2 := ok_def (k := 1) T.d_are_near sc_are_near 2 0 rfl rfl fun f cdv A outer s H E hr => by
  exact (ms_one (ms_ret (m_cm (cm_eq rfl hr) (x_abs rfl rfl T.z_abs (ma_cons (m_cO (ok_outer T) rfl (hr.mono (by first | decide | omega)) rfl (takes_of rfl rfl rfl rfl) (ma_cons (mv 0) (ma_cons (mv 1) ma_nil))) ma_nil)) m_int (nomark _))))
theorem sc_is_number : FnScope ["value"] ["value"] (defScope (top 6)) := ⟨rfl, rfl, rfl, by decide +kernel, rfl, by decide +kernel, by decide +kernel⟩
theorem ok_is_number (T : Txt g mg) : Ok g P w mg base "is_number" m_is_number 1 1 := ok_def (k := 0) T.d_is_number sc_is_number 1 0 rfl rfl fun f cdv A outer s H E hr => by
  exact (ms_one (ms_ret (m_andE (x_isi rfl rfl T.z_isinstance (ma_cons (mv 0) (ma_cons (y_int rfl T.z_int) ma_nil))) (m_oneE (m_notE (x_isi rfl rfl T.z_isinstance (ma_cons (mv 0) (ma_cons (y_bool rfl T.z_bool) ma_nil))))))))
theorem sc_fits_pair : FnScope ["thing"] ["thing"] (defScope (top 8)) := ⟨rfl, rfl, rfl, by decide +kernel, rfl, by decide +kernel, by decide +kernel⟩
theorem ok_fits_pair (T : Txt g mg) : Ok g P w mg base "fits_pair" m_fits_pair 1 2 := ok_def (k := 1) T.d_fits_pair sc_fits_pair 1 0 rfl rfl fun f cdv A outer s H E hr => by
  exact (ms_one (ms_ret (m_andE (x_isi rfl rfl T.z_isinstance (ma_cons (mv 0) (ma_cons (y_tuple rfl T.z_tuple) ma_nil))) (m_andE (m_cm (cm_eq rfl hr) (x_len rfl rfl T.z_len (ma_cons (mv 0) ma_nil)) m_int (nomark _)) (m_andE (m_cO (ok_is_number T) rfl (hr.mono (by first | decide | omega)) rfl (takes_of rfl rfl rfl rfl) (ma_cons (m_ix rfl (mv 0) m_int) ma_nil)) (m_oneE (m_cO (ok_is_number T) rfl (hr.mono (by first | decide | omega)) rfl (takes_of rfl rfl rfl rfl) (ma_cons (m_ix rfl (mv 0) m_int) ma_nil))))))))
theorem sc_fits_arm : FnScope ["thing"] ["thing"] (defScope (top 9)) := ⟨rfl, rfl, rfl, by decide +kernel, rfl, by decide +kernel, by decide +kernel⟩
theorem ok_fits_arm (T : Txt g mg) : Ok g P w mg base "fits_arm" m_fits_arm 1 3 := ok_def (k := 2) T.d_fits_arm sc_fits_arm 1 0 rfl rfl fun f cdv A outer s H E hr => by
  exact (ms_one (ms_ret (m_andE (m_cO (ok_fits_pair T) rfl (hr.mono (by first | decide | omega)) rfl (takes_of rfl rfl rfl rfl) (ma_cons (mv 0) ma_nil)) (m_andE (m_cm (cm_gt rfl hr) (mv 0) (m_tup (ma_cons m_int (ma_cons m_int ma_nil))) (nomark _)) (m_oneE (m_cm (cm_eq rfl hr) (x_gcd rfl T.c_gcd (ma_cons (m_ix rfl (mv 0) m_int) (ma_cons (m_ix rfl (mv 0) m_int) ma_nil))) m_int (nomark _)))))))
theorem sc_fits_edge : FnScope ["thing", "x", "y", "far_x", "far_y"] ["thing"] (defScope (top 10)) := ⟨rfl, rfl, rfl, by decide +kernel, rfl, by decide +kernel, by decide +kernel⟩
theorem ok_fits_edge (T : Txt g mg) : Ok g P w mg base "fits_edge" m_fits_edge 1 4 := ok_def (k := 3) T.d_fits_edge sc_fits_edge 1 4 rfl rfl fun f cdv A outer s H E hr => by
  exact (ms_cons (ms_if (PW.pt (mw_or (mt_not (mt_val (x_isi rfl rfl T.z_isinstance (ma_cons (mv 0) (ma_cons (y_tuple rfl T.z_tuple) ma_nil))))) (mw_or (mt_cm (cm_ne rfl hr) (x_len rfl rfl T.z_len (ma_cons (mv 0) ma_nil)) m_int (nomark _)) (mw_or (mt_not (mt_val (m_cO (ok_fits_pair T) rfl (hr.mono (by first | decide | omega)) rfl (takes_of rfl rfl rfl rfl) (ma_cons (m_ix rfl (mv 0) m_int) ma_nil)))) (mw_or1 (mt_not (mt_val (m_cO (ok_fits_pair T) rfl (hr.mono (by first | decide | omega)) rfl (takes_of rfl rfl rfl rfl) (ma_cons (m_ix rfl (mv 0) m_int) ma_nil))))))))) (ms_one (ms_ret m_bl)) ms_nil)
      (ms_cons (ms_asgA rfl rfl (mv 0) (pgs_cons (pg_tup rfl (pgs_cons (pg_name (i := 1) sc_fits_edge.nd rfl (by first | exact Or.inl rfl | exact Or.inr rfl)) (pgs_cons (pg_name (i := 2) sc_fits_edge.nd rfl (by first | exact Or.inl rfl | exact Or.inr rfl)) pgs_nil))) (pgs_cons (pg_tup rfl (pgs_cons (pg_name (i := 3) sc_fits_edge.nd rfl (by first | exact Or.inl rfl | exact Or.inr rfl)) (pgs_cons (pg_name (i := 4) sc_fits_edge.nd rfl (by first | exact Or.inl rfl | exact Or.inr rfl)) pgs_nil))) pgs_nil)) (gs_cons (gs_tup (gs_cons (gs_name 1) (gs_cons (gs_name 2) gs_nil))) (gs_cons (gs_tup (gs_cons (gs_name 3) (gs_cons (gs_name 4) gs_nil))) gs_nil)))
      (ms_one (ms_ret (m_cO (ok_fits_arm T) rfl (hr.mono (by first | decide | omega)) rfl (takes_of rfl rfl rfl rfl) (ma_cons (m_tup (ma_cons (m_subA (mv 3) (mv 1)) (ma_cons (m_subA (mv 4) (mv 2)) ma_nil))) ma_nil))))))
theorem sc_tupled : FnScope ["value", "levels", "part"] ["value", "levels"] (defScope (top 7)) := ⟨rfl, rfl, rfl, by decide +kernel, rfl, by decide +kernel, by decide +kernel⟩
theorem ok_tupledR (T : Txt g mg) : ∀ n, Ok g P w mg base "tupled" (m_tupledR n) 2 (n + 0 + 1)
  | 0 => (ok_none (k := 0) T.d_tupled sc_tupled 2 rfl).mono (by omega)
  | n + 1 => by
    have ih := ok_tupledR T n
    refine (ok_def (k := n + 0 + 1) T.d_tupled sc_tupled 2 1 rfl rfl fun f cdv A outer s H E hr => ?_).mono (by omega)
    exact (ms_cons (ms_if (PW.pt (mw_or (mt_cm (cm_eq rfl hr) (mv 1) m_int (nomark _)) (mw_or1 (mt_not (mt_val (x_isi rfl rfl T.z_isinstance (ma_cons (mv 0) (ma_cons (m_tup (ma_cons (y_list rfl T.z_list) (ma_cons (y_tuple rfl T.z_tuple) ma_nil))) ma_nil)))))))) (ms_one (ms_ret (mv 0))) ms_nil)
      (ms_one (ms_ret (x_tuple rfl rfl T.z_tuple (ma_cons (m_lc (own := [("part", 2)]) rfl sc_tupled.nd (mi_any rfl (mv 0)) (blkOk_by (by kernel_rfl)) (fun _ _ _ _ _ => (pg_name (i := 2) sc_tupled.nd rfl (by first | exact Or.inl rfl | exact Or.inr rfl))) (gs_name 2) (by decide) (fun _ _ _ _ _ => mts_nil) (fun _ _ _ _ _ => (m_cO ih rfl (hr.mono (by first | decide | omega)) rfl takes0 (ma_cons (mv 2) (ma_cons (m_subA (mv 1) m_int) ma_nil))))) ma_nil)))))
theorem ok_tupled (T : Txt g mg) : Ok g P w mg base "tupled" m_tupled 2 9 := ok_tupledR T 8
theorem ok_tab4 (T : Txt g mg) : TabOk g P w mg base 4 tab4 := tab_of fun k np m e => by
  unfold tab4 at e
  split at e
  · injection e with e; injection e with e1 e2; subst e1; subst e2; exact ⟨_, (ok_fits_arm T).mono (by decide), T.v_fits_arm⟩
  · injection e with e; injection e with e1 e2; subst e1; subst e2; exact ⟨_, (ok_fits_edge T).mono (by decide), T.v_fits_edge⟩
  · cases e
theorem sc_given : FnScope ["value", "levels", "fits", "own"] ["value", "levels", "fits"] (defScope (top 11)) := ⟨rfl, rfl, rfl, by decide +kernel, rfl, by decide +kernel, by decide +kernel⟩
theorem ok_given (T : Txt g mg) : Ok g P w mg base "given" m_given 3 10 := ok_def (k := 9) T.d_given sc_given 3 1 rfl rfl fun f cdv A outer s H E hr => by
  exact (ms_cons (ms_set (i := 3) sc_given.nd rfl (by first | exact Or.inl rfl | exact Or.inr rfl) (m_cO (ok_tupled T) rfl (hr.mono (by first | decide | omega)) rfl (takes_of rfl rfl rfl rfl) (ma_cons (mv 0) (ma_cons (mv 1) ma_nil))))
      (ms_cons (ms_if (mt_not (mt_val (m_callV rfl (ok_tab4 T) (hr.mono (by first | decide | omega)) (takes_of rfl rfl rfl rfl) (mv 2) (ma_cons (mv 3) ma_nil) rfl))) (ms_one (ms_raiseX rfl T.x_Unfit rfl (takes_of rfl rfl rfl rfl) rfl)) ms_nil)
      (ms_one (ms_ret (mv 3)))))
theorem sc_given_arm : FnScope ["value"] ["value"] (defScope (top 13)) := ⟨rfl, rfl, rfl, by decide +kernel, rfl, by decide +kernel, by decide +kernel⟩
theorem ok_given_arm (T : Txt g mg) : Ok g P w mg base "given_arm" m_given_arm 1 11 := ok_def (k := 10) T.d_given_arm sc_given_arm 1 0 rfl rfl fun f cdv A outer s H E hr => by
  exact (ms_one (ms_ret (m_cO (ok_given T) rfl (hr.mono (by first | decide | omega)) rfl (takes_of rfl rfl rfl rfl) (ma_cons (mv 0) (ma_cons m_int (ma_cons (m_fn (k := 13) rfl T.v_fits_arm) ma_nil))))))
theorem sc_are_neighbours : FnScope ["arm", "other"] ["arm", "other"] (defScope (top 42)) := ⟨rfl, rfl, rfl, by decide +kernel, rfl, by decide +kernel, by decide +kernel⟩
theorem ok_are_neighbours (T : Txt g mg) : Ok g P w mg base "are_neighbours" m_are_neighbours 2 12 := ok_def (k := 11) T.d_are_neighbours sc_are_neighbours 2 0 rfl rfl fun f cdv A outer s H E hr => by
  exact (ms_one (ms_ret (m_cO (ok_are_near T) rfl (hr.mono (by first | decide | omega)) rfl (takes_of rfl rfl rfl rfl) (ma_cons (m_cO (ok_given_arm T) rfl (hr.mono (by first | decide | omega)) rfl (takes_of rfl rfl rfl rfl) (ma_cons (mv 0) ma_nil)) (ma_cons (m_cO (ok_given_arm T) rfl (hr.mono (by first | decide | omega)) rfl (takes_of rfl rfl rfl rfl) (ma_cons (mv 1) ma_nil)) ma_nil)))))
theorem sc_times : FnScope ["number", "pair"] ["number", "pair"] (defScope (top 21)) := ⟨rfl, rfl, rfl, by decide +kernel, rfl, by decide +kernel, by decide +kernel⟩
theorem ok_times (T : Txt g mg) : Ok g P w mg base "times" m_times 2 1 := ok_def (k := 0) T.d_times sc_times 2 0 rfl rfl fun f cdv A outer s H E hr => by
  exact (ms_one (ms_ret (m_tup (ma_cons (m_mulC (mv 0) (m_ix rfl (mv 1) m_int)) (ma_cons (m_mulC (mv 0) (m_ix rfl (mv 1) m_int)) ma_nil)))))
theorem sc_signed_arm : FnScope ["pair"] ["pair"] (defScope (top 22)) := ⟨rfl, rfl, rfl, by decide +kernel, rfl, by decide +kernel, by decide +kernel⟩
theorem ok_signed_arm (T : Txt g mg) : Ok g P w mg base "signed_arm" m_signed_arm 1 2 := ok_def (k := 1) T.d_signed_arm sc_signed_arm 1 0 rfl rfl fun f cdv A outer s H E hr => by
  exact (ms_one (ms_ret (m_ifE (mt_cm (cm_gt rfl hr) (mv 0) (m_tup (ma_cons m_int (ma_cons m_int ma_nil))) (nomark _)) (mv 0) (m_cO (ok_times T) rfl (hr.mono (by first | decide | omega)) rfl (takes_of rfl rfl rfl rfl) (ma_cons (m_neg m_int) (ma_cons (mv 0) ma_nil))))))
theorem sc_taken_off : FnScope ["one", "two"] ["one", "two"] (defScope (top 20)) := ⟨rfl, rfl, rfl, by decide +kernel, rfl, by decide +kernel, by decide +kernel⟩
theorem ok_taken_off (T : Txt g mg) : Ok g P w mg base "taken_off" m_taken_off 2 1 := ok_def (k := 0) T.d_taken_off sc_taken_off 2 0 rfl rfl fun f cdv A outer s H E hr => by
  exact (ms_one (ms_ret (m_tup (ma_cons (m_subA (m_ix rfl (mv 0) m_int) (m_ix rfl (mv 1) m_int)) (ma_cons (m_subA (m_ix rfl (mv 0) m_int) (m_ix rfl (mv 1) m_int)) ma_nil)))))
theorem sc_arm_on : FnScope ["runs", "other", "number", "start", "step", "many"] ["runs", "other", "number"] (defScope (top 37)) := ⟨rfl, rfl, rfl, by decide +kernel, rfl, by decide +kernel, by decide +kernel⟩
theorem ok_arm_on (T : Txt g mg) : Ok g P w mg base "arm_on" m_arm_on 3 3 := ok_def (k := 2) T.d_arm_on sc_arm_on 3 3 rfl rfl fun f cdv A outer s H E hr => by
  exact (ms_cons (ms_for (passes_of rfl) rfl (mi_any rfl (mv 0)) (pg_tup rfl (pgs_cons (pg_name (i := 3) sc_arm_on.nd rfl (by first | exact Or.inl rfl | exact Or.inr rfl)) (pgs_cons (pg_name (i := 4) sc_arm_on.nd rfl (by first | exact Or.inl rfl | exact Or.inr rfl)) (pgs_cons (pg_name (i := 5) sc_arm_on.nd rfl (by first | exact Or.inl rfl | exact Or.inr rfl)) pgs_nil)))) (gs_tup (gs_cons (gs_name 3) (gs_cons (gs_name 4) (gs_cons (gs_name 5) gs_nil)))) (ms_cons (ms_if (mt_cm (cm_lt rfl hr) (mv 2) (mv 5) (nomark _)) (ms_one (ms_ret (m_cO (ok_signed_arm T) rfl (hr.mono (by first | decide | omega)) rfl (takes_of rfl rfl rfl rfl) (ma_cons (m_cO (ok_taken_off T) rfl (hr.mono (by first | decide | omega)) rfl (takes_of rfl rfl rfl rfl) (ma_cons (mv 3) (ma_cons (m_cO (ok_times T) rfl (hr.mono (by first | decide | omega)) rfl (takes_of rfl rfl rfl rfl) (ma_cons (mv 2) (ma_cons (mv 4) ma_nil))) ma_nil))) ma_nil)))) ms_nil)
      (ms_one (ms_set (i := 2) sc_arm_on.nd rfl (by first | exact Or.inl rfl | exact Or.inr rfl) (m_subA (mv 2) (mv 5))))))
      (ms_one (ms_ret (mv 1))))
theorem sc_parities : FnScope ["pair"] ["pair"] (defScope (top 23)) := ⟨rfl, rfl, rfl, by decide +kernel, rfl, by decide +kernel, by decide +kernel⟩
theorem ok_parities (T : Txt g mg) : Ok g P w mg base "parities" m_parities 1 1 := ok_def (k := 0) T.d_parities sc_parities 1 0 rfl rfl fun f cdv A outer s H E hr => by
  exact (ms_one (ms_ret (m_tup (ma_cons (m_mod (m_ix rfl (mv 0) m_int) m_int) (ma_cons (m_mod (m_ix rfl (mv 0) m_int) m_int) ma_nil)))))
theorem sc_given_alike : FnScope ["arm", "other"] ["arm", "other"] (defScope (top 47)) := ⟨rfl, rfl, rfl, by decide +kernel, rfl, by decide +kernel, by decide +kernel⟩
theorem ok_given_alike (T : Txt g mg) : Ok g P w mg base "given_alike" m_given_alike 2 12 := ok_def (k := 11) T.d_given_alike sc_given_alike 2 0 rfl rfl fun f cdv A outer s H E hr => by
  exact (ms_cons (ms_par (i := 0) (j := 1) rfl sc_given_alike.nd rfl rfl (by decide) rfl rfl (ma_cons (m_cO (ok_given_arm T) rfl (hr.mono (by first | decide | omega)) rfl (takes_of rfl rfl rfl rfl) (ma_cons (mv 0) ma_nil)) (ma_cons (m_cO (ok_given_arm T) rfl (hr.mono (by first | decide | omega)) rfl (takes_of rfl rfl rfl rfl) (ma_cons (mv 1) ma_nil)) ma_nil)) rfl)
      (ms_cons (ms_if (mt_cm (cm_ne rfl hr) (m_cO (ok_parities T) rfl (hr.mono (by first | decide | omega)) rfl (takes_of rfl rfl rfl rfl) (ma_cons (mv 0) ma_nil)) (m_cO (ok_parities T) rfl (hr.mono (by first | decide | omega)) rfl (takes_of rfl rfl rfl rfl) (ma_cons (mv 1) ma_nil)) (nomark _)) (ms_one (ms_raiseX rfl T.x_CanNot rfl (takes_of rfl rfl rfl rfl) rfl)) ms_nil)
      (ms_one (ms_ret (m_tup (ma_cons (mv 0) (ma_cons (mv 1) ma_nil)))))))
theorem sc_given_count : FnScope ["value"] ["value"] (defScope (top 16)) := ⟨rfl, rfl, rfl, by decide +kernel, rfl, by decide +kernel, by decide +kernel⟩
theorem ok_given_count (T : Txt g mg) : Ok g P w mg base "given_count" m_given_count 1 2 := ok_def (k := 1) T.d_given_count sc_given_count 1 0 rfl rfl fun f cdv A outer s H E hr => by
  exact (ms_cons (ms_if (PW.pt (mw_or (mt_not (mt_val (m_cO (ok_is_number T) rfl (hr.mono (by first | decide | omega)) rfl (takes_of rfl rfl rfl rfl) (ma_cons (mv 0) ma_nil)))) (mw_or1 (mt_cm (cm_lt rfl hr) (mv 0) m_int (nomark _))))) (ms_one (ms_raiseX rfl T.x_Unfit rfl (takes_of rfl rfl rfl rfl) rfl)) ms_nil)
      (ms_one (ms_ret (mv 0))))
theorem sc_inner : FnScope ["one", "two"] ["one", "two"] (defScope (top 28)) := ⟨rfl, rfl, rfl, by decide +kernel, rfl, by decide +kernel, by decide +kernel⟩
theorem ok_inner (T : Txt g mg) : Ok g P w mg base "inner" m_inner 2 1 := ok_def (k := 0) T.d_inner sc_inner 2 0 rfl rfl fun f cdv A outer s H E hr => by
  exact (ms_one (ms_ret (m_addA (m_mulC (m_ix rfl (mv 0) m_int) (m_ix rfl (mv 1) m_int)) (m_mulC (m_ix rfl (mv 0) m_int) (m_ix rfl (mv 1) m_int)))))
theorem sc_added : FnScope ["one", "two"] ["one", "two"] (defScope (top 19)) := ⟨rfl, rfl, rfl, by decide +kernel, rfl, by decide +kernel, by decide +kernel⟩
theorem ok_added (T : Txt g mg) : Ok g P w mg base "added" m_added 2 1 := ok_def (k := 0) T.d_added sc_added 2 0 rfl rfl fun f cdv A outer s H E hr => by
  exact (ms_one (ms_ret (m_tup (ma_cons (m_addA (m_ix rfl (mv 0) m_int) (m_ix rfl (mv 1) m_int)) (ma_cons (m_addA (m_ix rfl (mv 0) m_int) (m_ix rfl (mv 1) m_int)) ma_nil)))))
theorem sc_mate_of : FnScope ["arm", "rest", "later", "share", "later_share", "whole"] ["arm"] (defScope (top 29)) := ⟨rfl, rfl, rfl, by decide +kernel, rfl, by decide +kernel, by decide +kernel⟩
theorem ok_mate_of (T : Txt g mg) : Ok g P w mg base "mate_of" m_mate_of 1 2 := ok_def (k := 1) T.d_mate_of sc_mate_of 1 5 rfl rfl fun f cdv A outer s H E hr => by
  exact (ms_cons (ms_asgA rfl rfl (mv 0) (pgs_cons (pg_name (i := 1) sc_mate_of.nd rfl (by first | exact Or.inl rfl | exact Or.inr rfl)) (pgs_cons (pg_name (i := 2) sc_mate_of.nd rfl (by first | exact Or.inl rfl | exact Or.inr rfl)) pgs_nil)) (gs_cons (gs_name 1) (gs_cons (gs_name 2) gs_nil)))
      (ms_cons (ms_asgA rfl rfl (m_tup (ma_cons (m_tup (ma_cons m_int (ma_cons m_int ma_nil))) (ma_cons (m_tup (ma_cons m_int (ma_cons m_int ma_nil))) ma_nil))) (pgs_cons (pg_name (i := 3) sc_mate_of.nd rfl (by first | exact Or.inl rfl | exact Or.inr rfl)) (pgs_cons (pg_name (i := 4) sc_mate_of.nd rfl (by first | exact Or.inl rfl | exact Or.inr rfl)) pgs_nil)) (gs_cons (gs_name 3) (gs_cons (gs_name 4) gs_nil)))
      (ms_cons (ms_while (passes_of rfl) (mt_cm (cm_ne rfl hr) (mv 2) m_int (nomark _)) (ms_cons (ms_set (i := 5) sc_mate_of.nd rfl (by first | exact Or.inl rfl | exact Or.inr rfl) (m_divB (mv 1) (mv 2)))
      (ms_cons (ms_par (i := 1) (j := 2) rfl sc_mate_of.nd rfl rfl (by decide) rfl rfl (ma_cons (mv 2) (ma_cons (m_subA (mv 1) (m_mulC (mv 5) (mv 2))) ma_nil)) rfl)
      (ms_one (ms_par (i := 3) (j := 4) rfl sc_mate_of.nd rfl rfl (by decide) rfl rfl (ma_cons (mv 4) (ma_cons (m_cO (ok_taken_off T) rfl (hr.mono (by first | decide | omega)) rfl (takes_of rfl rfl rfl rfl) (ma_cons (mv 3) (ma_cons (m_cO (ok_times T) rfl (hr.mono (by first | decide | omega)) rfl (takes_of rfl rfl rfl rfl) (ma_cons (mv 5) (ma_cons (mv 4) ma_nil))) ma_nil))) ma_nil)) rfl)))))
      (ms_one (ms_ret (m_cO (ok_times T) rfl (hr.mono (by first | decide | omega)) rfl (takes_of rfl rfl rfl rfl) (ma_cons (mv 1) (ma_cons (m_tup (ma_cons (m_neg (m_ix rfl (mv 3) m_int)) (ma_cons (m_ix rfl (mv 3) m_int) ma_nil))) ma_nil))))))))
theorem sc_one_neighbour : FnScope ["arm"] ["arm"] (defScope (top 30)) := ⟨rfl, rfl, rfl, by decide +kernel, rfl, by decide +kernel, by decide +kernel⟩
theorem ok_one_neighbour (T : Txt g mg) : Ok g P w mg base "one_neighbour" m_one_neighbour 1 3 := ok_def (k := 2) T.d_one_neighbour sc_one_neighbour 1 0 rfl rfl fun f cdv A outer s H E hr => by
  exact (ms_one (ms_ret (m_cO (ok_added T) rfl (hr.mono (by first | decide | omega)) rfl (takes_of rfl rfl rfl rfl) (ma_cons (m_cO (ok_times T) rfl (hr.mono (by first | decide | omega)) rfl (takes_of rfl rfl rfl rfl) (ma_cons m_int (ma_cons (m_cO (ok_mate_of T) rfl (hr.mono (by first | decide | omega)) rfl (takes_of rfl rfl rfl rfl) (ma_cons (mv 0) ma_nil)) ma_nil))) (ma_cons (mv 0) ma_nil)))))
theorem sc_elder_pair : FnScope ["pair", "square", "far", "near"] ["pair"] (defScope (top 33)) := ⟨rfl, rfl, rfl, by decide +kernel, rfl, by decide +kernel, by decide +kernel⟩
theorem ok_elder_pair (T : Txt g mg) : Ok g P w mg base "elder_pair" m_elder_pair 1 4 := ok_def (k := 3) T.d_elder_pair sc_elder_pair 1 3 rfl rfl fun f cdv A outer s H E hr => by
  exact (ms_cons (ms_par (i := 1) (j := 2) rfl sc_elder_pair.nd rfl rfl (by decide) rfl rfl (ma_cons (m_cO (ok_inner T) rfl (hr.mono (by first | decide | omega)) rfl (takes_of rfl rfl rfl rfl) (ma_cons (mv 0) (ma_cons (mv 0) ma_nil))) (ma_cons (m_cO (ok_one_neighbour T) rfl (hr.mono (by first | decide | omega)) rfl (takes_of rfl rfl rfl rfl) (ma_cons (mv 0) ma_nil)) ma_nil)) rfl)
      (ms_cons (ms_set (i := 3) sc_elder_pair.nd rfl (by first | exact Or.inl rfl | exact Or.inr rfl) (m_cO (ok_taken_off T) rfl (hr.mono (by first | decide | omega)) rfl (takes_of rfl rfl rfl rfl) (ma_cons (mv 2) (ma_cons (m_cO (ok_times T) rfl (hr.mono (by first | decide | omega)) rfl (takes_of rfl rfl rfl rfl) (ma_cons (m_mulC m_int (m_divB (m_addA (m_cO (ok_inner T) rfl (hr.mono (by first | decide | omega)) rfl (takes_of rfl rfl rfl rfl) (ma_cons (mv 2) (ma_cons (mv 0) ma_nil))) (mv 1)) (m_mulC m_int (mv 1)))) (ma_cons (mv 0) ma_nil))) ma_nil))))
      (ms_one (ms_ret (m_ifE (mt_cm (cm_gt rfl hr) (m_cO (ok_inner T) rfl (hr.mono (by first | decide | omega)) rfl (takes_of rfl rfl rfl rfl) (ma_cons (mv 3) (ma_cons (mv 0) ma_nil))) m_int (nomark _)) (mv 3) (m_cO (ok_times T) rfl (hr.mono (by first | decide | omega)) rfl (takes_of rfl rfl rfl rfl) (ma_cons (m_neg m_int) (ma_cons (mv 3) ma_nil))))))))
theorem sc_least_pair : FnScope ["pair"] ["pair"] (defScope (top 32)) := ⟨rfl, rfl, rfl, by decide +kernel, rfl, by decide +kernel, by decide +kernel⟩
theorem ok_least_pair (T : Txt g mg) : Ok g P w mg base "least_pair" m_least_pair 1 2 := ok_def (k := 1) T.d_least_pair sc_least_pair 1 0 rfl rfl fun f cdv A outer s H E hr => by
  exact (ms_one (ms_ret (m_cm (cm_le rfl hr) (m_cO (ok_inner T) rfl (hr.mono (by first | decide | omega)) rfl (takes_of rfl rfl rfl rfl) (ma_cons (mv 0) (ma_cons (mv 0) ma_nil))) m_int (nomark _))))
theorem sc_told_back : FnScope ["pair", "first", "second"] ["pair", "first", "second"] (defScope (top 35)) := ⟨rfl, rfl, rfl, by decide +kernel, rfl, by decide +kernel, by decide +kernel⟩
theorem ok_told_back (T : Txt g mg) : Ok g P w mg base "told_back" m_told_back 3 2 := ok_def (k := 1) T.d_told_back sc_told_back 3 0 rfl rfl fun f cdv A outer s H E hr => by
  exact (ms_one (ms_ret (m_cO (ok_added T) rfl (hr.mono (by first | decide | omega)) rfl (takes_of rfl rfl rfl rfl) (ma_cons (m_cO (ok_times T) rfl (hr.mono (by first | decide | omega)) rfl (takes_of rfl rfl rfl rfl) (ma_cons (m_ix rfl (mv 0) m_int) (ma_cons (mv 1) ma_nil))) (ma_cons (m_cO (ok_times T) rfl (hr.mono (by first | decide | omega)) rfl (takes_of rfl rfl rfl rfl) (ma_cons (m_ix rfl (mv 0) m_int) (ma_cons (mv 2) ma_nil))) ma_nil)))))
theorem sc_runs_between : FnScope ["arm", "other", "mate", "spot", "runs", "step", "square", "many"] ["arm", "other"] (defScope (top 34)) := ⟨rfl, rfl, rfl, by decide +kernel, rfl, by decide +kernel, by decide +kernel⟩
theorem ok_runs_between (T : Txt g mg) : Ok g P w mg base "runs_between" m_runs_between 2 5 := ok_def (k := 4) T.d_runs_between sc_runs_between 2 6 rfl rfl fun f cdv A outer s H E hr => by
  exact (ms_cons (ms_set (i := 2) sc_runs_between.nd rfl (by first | exact Or.inl rfl | exact Or.inr rfl) (m_cO (ok_mate_of T) rfl (hr.mono (by first | decide | omega)) rfl (takes_of rfl rfl rfl rfl) (ma_cons (mv 1) ma_nil)))
      (ms_cons (ms_set (i := 3) sc_runs_between.nd rfl (by first | exact Or.inl rfl | exact Or.inr rfl) (m_tup (ma_cons (m_cO (ok_outer T) rfl (hr.mono (by first | decide | omega)) rfl (takes_of rfl rfl rfl rfl) (ma_cons (mv 0) (ma_cons (mv 2) ma_nil))) (ma_cons (m_cO (ok_outer T) rfl (hr.mono (by first | decide | omega)) rfl (takes_of rfl rfl rfl rfl) (ma_cons (mv 1) (ma_cons (mv 0) ma_nil))) ma_nil))))
      (ms_cons (ms_set (i := 4) sc_runs_between.nd rfl (by first | exact Or.inl rfl | exact Or.inr rfl) (m_lst ma_nil))
      (ms_cons (ms_while (passes_of rfl) (mt_not (mt_val (m_cO (ok_least_pair T) rfl (hr.mono (by first | decide | omega)) rfl (takes_of rfl rfl rfl rfl) (ma_cons (mv 3) ma_nil)))) (ms_cons (ms_set (i := 5) sc_runs_between.nd rfl (by first | exact Or.inl rfl | exact Or.inr rfl) (m_cO (ok_taken_off T) rfl (hr.mono (by first | decide | omega)) rfl (takes_of rfl rfl rfl rfl) (ma_cons (mv 3) (ma_cons (m_cO (ok_elder_pair T) rfl (hr.mono (by first | decide | omega)) rfl (takes_of rfl rfl rfl rfl) (ma_cons (mv 3) ma_nil)) ma_nil))))
      (ms_cons (ms_set (i := 6) sc_runs_between.nd rfl (by first | exact Or.inl rfl | exact Or.inr rfl) (m_cO (ok_inner T) rfl (hr.mono (by first | decide | omega)) rfl (takes_of rfl rfl rfl rfl) (ma_cons (mv 5) (ma_cons (mv 5) ma_nil))))
      (ms_cons (ms_set (i := 7) sc_runs_between.nd rfl (by first | exact Or.inl rfl | exact Or.inr rfl) (m_neg (m_divB (m_subA (mv 6) (m_mulC m_int (m_cO (ok_inner T) rfl (hr.mono (by first | decide | omega)) rfl (takes_of rfl rfl rfl rfl) (ma_cons (mv 3) (ma_cons (mv 5) ma_nil))))) (m_mulC m_int (mv 6)))))
      (ms_cons (ms_expr (m_append rfl (mv 4) (ma_cons (m_tup (ma_cons (m_cO (ok_told_back T) rfl (hr.mono (by first | decide | omega)) rfl (takes_of rfl rfl rfl rfl) (ma_cons (mv 3) (ma_cons (mv 1) (ma_cons (mv 2) ma_nil)))) (ma_cons (m_cO (ok_told_back T) rfl (hr.mono (by first | decide | omega)) rfl (takes_of rfl rfl rfl rfl) (ma_cons (mv 5) (ma_cons (mv 1) (ma_cons (mv 2) ma_nil)))) (ma_cons (mv 7) ma_nil)))) ma_nil)))
      (ms_one (ms_set (i := 3) sc_runs_between.nd rfl (by first | exact Or.inl rfl | exact Or.inr rfl) (m_cO (ok_taken_off T) rfl (hr.mono (by first | decide | omega)) rfl (takes_of rfl rfl rfl rfl) (ma_cons (mv 3) (ma_cons (m_cO (ok_times T) rfl (hr.mono (by first | decide | omega)) rfl (takes_of rfl rfl rfl rfl) (ma_cons (mv 7) (ma_cons (mv 5) ma_nil))) ma_nil))))))))))
      (ms_one (ms_ret (mv 4)))))))
theorem sc_steps_of : FnScope ["runs", "run"] ["runs"] (defScope (top 36)) := ⟨rfl, rfl, rfl, by decide +kernel, rfl, by decide +kernel, by decide +kernel⟩
theorem ok_steps_of (T : Txt g mg) : Ok g P w mg base "steps_of" m_steps_of 1 1 := ok_def (k := 0) T.d_steps_of sc_steps_of 1 1 rfl rfl fun f cdv A outer s H E hr => by
  exact (ms_one (ms_ret (x_sum rfl rfl rfl T.z_sum (ma_cons (m_lc (own := [("run", 1)]) rfl sc_steps_of.nd (mi_any rfl (mv 0)) (blkOk_by (by kernel_rfl)) (fun _ _ _ _ _ => (pg_name (i := 1) sc_steps_of.nd rfl (by first | exact Or.inl rfl | exact Or.inr rfl))) (gs_name 1) (by decide) (fun _ _ _ _ _ => mts_nil) (fun _ _ _ _ _ => (m_ix rfl (mv 1) m_int))) ma_nil))))
theorem sc_at_step : FnScope ["arm", "other", "number", "runs"] ["arm", "other", "number"] (defScope (top 50)) := ⟨rfl, rfl, rfl, by decide +kernel, rfl, by decide +kernel, by decide +kernel⟩
theorem ok_at_step (T : Txt g mg) : Ok g P w mg base "at_step" m_at_step 3 13 := ok_def (k := 12) T.d_at_step sc_at_step 3 1 rfl rfl fun f cdv A outer s H E hr => by
  exact (ms_cons (ms_par3 (i := 0) (j := 1) (l := 2) rfl sc_at_step.nd rfl rfl rfl (by decide) (by decide) (by decide) rfl rfl rfl (ma_cons (m_cO (ok_given_arm T) rfl (hr.mono (by first | decide | omega)) rfl (takes_of rfl rfl rfl rfl) (ma_cons (mv 0) ma_nil)) (ma_cons (m_cO (ok_given_arm T) rfl (hr.mono (by first | decide | omega)) rfl (takes_of rfl rfl rfl rfl) (ma_cons (mv 1) ma_nil)) (ma_cons (m_cO (ok_given_count T) rfl (hr.mono (by first | decide | omega)) rfl (takes_of rfl rfl rfl rfl) (ma_cons (mv 2) ma_nil)) ma_nil))) rfl)
      (ms_cons (ms_asgA rfl rfl (m_cO (ok_given_alike T) rfl (hr.mono (by first | decide | omega)) rfl (takes_of rfl rfl rfl rfl) (ma_cons (mv 0) (ma_cons (mv 1) ma_nil))) (pgs_cons (pg_name (i := 0) sc_at_step.nd rfl (by first | exact Or.inl rfl | exact Or.inr rfl)) (pgs_cons (pg_name (i := 1) sc_at_step.nd rfl (by first | exact Or.inl rfl | exact Or.inr rfl)) pgs_nil)) (gs_cons (gs_name 0) (gs_cons (gs_name 1) gs_nil)))
      (ms_cons (ms_set (i := 3) sc_at_step.nd rfl (by first | exact Or.inl rfl | exact Or.inr rfl) (m_cO (ok_runs_between T) rfl (hr.mono (by first | decide | omega)) rfl (takes_of rfl rfl rfl rfl) (ma_cons (mv 0) (ma_cons (mv 1) ma_nil))))
      (ms_cons (ms_if (mt_cm (cm_gt rfl hr) (mv 2) (m_cO (ok_steps_of T) rfl (hr.mono (by first | decide | omega)) rfl (takes_of rfl rfl rfl rfl) (ma_cons (mv 3) ma_nil)) (nomark _)) (ms_one (ms_raiseX rfl T.x_CanNot rfl (takes_of rfl rfl rfl rfl) rfl)) ms_nil)
      (ms_one (ms_ret (m_cO (ok_arm_on T) rfl (hr.mono (by first | decide | omega)) rfl (takes_of rfl rfl rfl rfl) (ma_cons (mv 3) (ma_cons (mv 1) (ma_cons (mv 2) ma_nil))))))))))
theorem sc_base_between : FnScope ["arm", "other", "x", "y", "less_x", "less_y"] ["arm", "other"] (defScope (top 53)) := ⟨rfl, rfl, rfl, by decide +kernel, rfl, by decide +kernel, by decide +kernel⟩
theorem ok_base_between (T : Txt g mg) : Ok g P w mg base "base_between" m_base_between 2 3 := ok_def (k := 2) T.d_base_between sc_base_between 2 4 rfl rfl fun f cdv A outer s H E hr => by
  exact (ms_cons (ms_if (mt_not (mt_val (m_cO (ok_are_near T) rfl (hr.mono (by first | decide | omega)) rfl (takes_of rfl rfl rfl rfl) (ma_cons (mv 0) (ma_cons (mv 1) ma_nil))))) (ms_one (ms_raiseX rfl T.x_CanNot rfl (takes_of rfl rfl rfl rfl) rfl)) ms_nil)
      (ms_cons (ms_asgA rfl rfl (m_tup (ma_cons (m_cO (ok_added T) rfl (hr.mono (by first | decide | omega)) rfl (takes_of rfl rfl rfl rfl) (ma_cons (mv 0) (ma_cons (mv 1) ma_nil))) (ma_cons (m_cO (ok_taken_off T) rfl (hr.mono (by first | decide | omega)) rfl (takes_of rfl rfl rfl rfl) (ma_cons (mv 0) (ma_cons (mv 1) ma_nil))) ma_nil))) (pgs_cons (pg_tup rfl (pgs_cons (pg_name (i := 2) sc_base_between.nd rfl (by first | exact Or.inl rfl | exact Or.inr rfl)) (pgs_cons (pg_name (i := 3) sc_base_between.nd rfl (by first | exact Or.inl rfl | exact Or.inr rfl)) pgs_nil))) (pgs_cons (pg_tup rfl (pgs_cons (pg_name (i := 4) sc_base_between.nd rfl (by first | exact Or.inl rfl | exact Or.inr rfl)) (pgs_cons (pg_name (i := 5) sc_base_between.nd rfl (by first | exact Or.inl rfl | exact Or.inr rfl)) pgs_nil))) pgs_nil)) (gs_cons (gs_tup (gs_cons (gs_name 2) (gs_cons (gs_name 3) gs_nil))) (gs_cons (gs_tup (gs_cons (gs_name 4) (gs_cons (gs_name 5) gs_nil))) gs_nil)))
      (ms_one (ms_ret (m_tup (ma_cons (m_tup (ma_cons (m_divB (mv 2) m_int) (ma_cons (m_divB (mv 3) m_int) ma_nil))) (ma_cons (m_tup (ma_cons (m_divB (mv 4) m_int) (ma_cons (m_divB (mv 5) m_int) ma_nil))) ma_nil)))))))
theorem sc_base_of : FnScope ["arm", "other", "one", "two"] ["arm", "other"] (defScope (top 55)) := ⟨rfl, rfl, rfl, by decide +kernel, rfl, by decide +kernel, by decide +kernel⟩
theorem ok_base_of (T : Txt g mg) : Ok g P w mg base "base_of" m_base_of 2 12 := ok_def (k := 11) T.d_base_of sc_base_of 2 2 rfl rfl fun f cdv A outer s H E hr => by
  exact (ms_cons (ms_asgA rfl rfl (m_cO (ok_base_between T) rfl (hr.mono (by first | decide | omega)) rfl (takes_of rfl rfl rfl rfl) (ma_cons (m_cO (ok_given_arm T) rfl (hr.mono (by first | decide | omega)) rfl (takes_of rfl rfl rfl rfl) (ma_cons (mv 0) ma_nil)) (ma_cons (m_cO (ok_given_arm T) rfl (hr.mono (by first | decide | omega)) rfl (takes_of rfl rfl rfl rfl) (ma_cons (mv 1) ma_nil)) ma_nil))) (pgs_cons (pg_name (i := 2) sc_base_of.nd rfl (by first | exact Or.inl rfl | exact Or.inr rfl)) (pgs_cons (pg_name (i := 3) sc_base_of.nd rfl (by first | exact Or.inl rfl | exact Or.inr rfl)) pgs_nil)) (gs_cons (gs_name 2) (gs_cons (gs_name 3) gs_nil)))
      (ms_one (ms_ret (x_tuple rfl rfl T.z_tuple (ma_cons (x_sortC rfl rfl hr rfl T.z_sorted (ma_cons (m_lst (ma_cons (m_cO (ok_signed_arm T) rfl (hr.mono (by first | decide | omega)) rfl (takes_of rfl rfl rfl rfl) (ma_cons (mv 2) ma_nil)) (ma_cons (m_cO (ok_signed_arm T) rfl (hr.mono (by first | decide | omega)) rfl (takes_of rfl rfl rfl rfl) (ma_cons (mv 3) ma_nil)) ma_nil))) ma_nil)) ma_nil)))))
theorem sc_steps_apart : FnScope ["arm", "other"] ["arm", "other"] (defScope (top 38)) := ⟨rfl, rfl, rfl, by decide +kernel, rfl, by decide +kernel, by decide +kernel⟩
theorem ok_steps_apart (T : Txt g mg) : Ok g P w mg base "steps_apart" m_steps_apart 2 6 := ok_def (k := 5) T.d_steps_apart sc_steps_apart 2 0 rfl rfl fun f cdv A outer s H E hr => by
  exact (ms_one (ms_ret (m_cO (ok_steps_of T) rfl (hr.mono (by first | decide | omega)) rfl (takes_of rfl rfl rfl rfl) (ma_cons (m_cO (ok_runs_between T) rfl (hr.mono (by first | decide | omega)) rfl (takes_of rfl rfl rfl rfl) (ma_cons (mv 0) (ma_cons (mv 1) ma_nil))) ma_nil))))
theorem sc_depth : FnScope ["arm"] ["arm"] (defScope (top 46)) := ⟨rfl, rfl, rfl, by decide +kernel, rfl, by decide +kernel, by decide +kernel⟩
theorem ok_depth (T : Txt g mg) : Ok g P w mg base "depth" m_depth 1 12 := ok_def (k := 11) T.d_depth sc_depth 1 0 rfl rfl fun f cdv A outer s H E hr => by
  exact (ms_cons (ms_set (i := 0) sc_depth.nd rfl (by first | exact Or.inl rfl | exact Or.inr rfl) (m_cO (ok_given_arm T) rfl (hr.mono (by first | decide | omega)) rfl (takes_of rfl rfl rfl rfl) (ma_cons (mv 0) ma_nil)))
      (ms_one (ms_ret (m_cO (ok_steps_apart T) rfl (hr.mono (by first | decide | omega)) rfl (takes_of rfl rfl rfl rfl) (ma_cons (mv 0) (ma_cons (m_cO (ok_parities T) rfl (hr.mono (by first | decide | omega)) rfl (takes_of rfl rfl rfl rfl) (ma_cons (mv 0) ma_nil)) ma_nil))))))
theorem sc_elder : FnScope ["arm"] ["arm"] (defScope (top 44)) := ⟨rfl, rfl, rfl, by decide +kernel, rfl, by decide +kernel, by decide +kernel⟩
theorem ok_elder (T : Txt g mg) : Ok g P w mg base "elder" m_elder 1 12 := ok_def (k := 11) T.d_elder sc_elder 1 0 rfl rfl fun f cdv A outer s H E hr => by
  exact (ms_cons (ms_set (i := 0) sc_elder.nd rfl (by first | exact Or.inl rfl | exact Or.inr rfl) (m_cO (ok_given_arm T) rfl (hr.mono (by first | decide | omega)) rfl (takes_of rfl rfl rfl rfl) (ma_cons (mv 0) ma_nil)))
      (ms_one (ms_ret (m_ifE (mt_val (m_cO (ok_least_pair T) rfl (hr.mono (by first | decide | omega)) rfl (takes_of rfl rfl rfl rfl) (ma_cons (mv 0) ma_nil))) m_non (m_cO (ok_signed_arm T) rfl (hr.mono (by first | decide | omega)) rfl (takes_of rfl rfl rfl rfl) (ma_cons (m_cO (ok_elder_pair T) rfl (hr.mono (by first | decide | omega)) rfl (takes_of rfl rfl rfl rfl) (ma_cons (mv 0) ma_nil)) ma_nil))))))
theorem sc_given_edge : FnScope ["value"] ["value"] (defScope (top 14)) := ⟨rfl, rfl, rfl, by decide +kernel, rfl, by decide +kernel, by decide +kernel⟩
theorem ok_given_edge (T : Txt g mg) : Ok g P w mg base "given_edge" m_given_edge 1 11 := ok_def (k := 10) T.d_given_edge sc_given_edge 1 0 rfl rfl fun f cdv A outer s H E hr => by
  exact (ms_one (ms_ret (m_cO (ok_given T) rfl (hr.mono (by first | decide | omega)) rfl (takes_of rfl rfl rfl rfl) (ma_cons (mv 0) (ma_cons m_int (ma_cons (m_fn (k := 14) rfl T.v_fits_edge) ma_nil))))))
theorem sc_half_away : FnScope ["arm", "far", "mate", "many"] ["arm", "far"] (defScope (top 63)) := ⟨rfl, rfl, rfl, by decide +kernel, rfl, by decide +kernel, by decide +kernel⟩
theorem ok_half_away (T : Txt g mg) : Ok g P w mg base "half_away" m_half_away 2 3 := ok_def (k := 2) T.d_half_away sc_half_away 2 2 rfl rfl fun f cdv A outer s H E hr => by
  exact (ms_cons (ms_set (i := 2) sc_half_away.nd rfl (by first | exact Or.inl rfl | exact Or.inr rfl) (m_cO (ok_mate_of T) rfl (hr.mono (by first | decide | omega)) rfl (takes_of rfl rfl rfl rfl) (ma_cons (mv 0) ma_nil)))
      (ms_cons (ms_set (i := 3) sc_half_away.nd rfl (by first | exact Or.inl rfl | exact Or.inr rfl) (m_neg (m_divB (m_cO (ok_outer T) rfl (hr.mono (by first | decide | omega)) rfl (takes_of rfl rfl rfl rfl) (ma_cons (mv 1) (ma_cons (mv 2) ma_nil))) (m_cO (ok_outer T) rfl (hr.mono (by first | decide | omega)) rfl (takes_of rfl rfl rfl rfl) (ma_cons (mv 0) (ma_cons (mv 1) ma_nil))))))
      (ms_one (ms_ret (m_tup (ma_cons (mv 0) (ma_cons (m_cO (ok_signed_arm T) rfl (hr.mono (by first | decide | omega)) rfl (takes_of rfl rfl rfl rfl) (ma_cons (m_cO (ok_taken_off T) rfl (hr.mono (by first | decide | omega)) rfl (takes_of rfl rfl rfl rfl) (ma_cons (m_cO (ok_times T) rfl (hr.mono (by first | decide | omega)) rfl (takes_of rfl rfl rfl rfl) (ma_cons (m_subA (m_mulC m_int (mv 3)) m_int) (ma_cons (mv 0) ma_nil))) (ma_cons (m_cO (ok_times T) rfl (hr.mono (by first | decide | omega)) rfl (takes_of rfl rfl rfl rfl) (ma_cons m_int (ma_cons (mv 2) ma_nil))) ma_nil))) ma_nil)) ma_nil)))))))
theorem sc_part_each_other : FnScope ["way", "other", "ax", "ay", "bx", "by", "cx", "cy", "dx", "dy", "x", "y"] ["way", "other"] (defScope (top 24)) := ⟨rfl, rfl, rfl, by decide +kernel, rfl, by decide +kernel, by decide +kernel⟩
theorem ok_part_each_other (T : Txt g mg) : Ok g P w mg base "part_each_other" m_part_each_other 2 1 := ok_def (k := 0) T.d_part_each_other sc_part_each_other 2 10 rfl rfl fun f cdv A outer s H E hr => by
  exact (ms_cons (ms_asgA rfl rfl (m_tup (ma_cons (mv 0) (ma_cons (mv 1) ma_nil))) (pgs_cons (pg_tup rfl (pgs_cons (pg_tup rfl (pgs_cons (pg_name (i := 2) sc_part_each_other.nd rfl (by first | exact Or.inl rfl | exact Or.inr rfl)) (pgs_cons (pg_name (i := 3) sc_part_each_other.nd rfl (by first | exact Or.inl rfl | exact Or.inr rfl)) pgs_nil))) (pgs_cons (pg_tup rfl (pgs_cons (pg_name (i := 4) sc_part_each_other.nd rfl (by first | exact Or.inl rfl | exact Or.inr rfl)) (pgs_cons (pg_name (i := 5) sc_part_each_other.nd rfl (by first | exact Or.inl rfl | exact Or.inr rfl)) pgs_nil))) pgs_nil))) (pgs_cons (pg_tup rfl (pgs_cons (pg_tup rfl (pgs_cons (pg_name (i := 6) sc_part_each_other.nd rfl (by first | exact Or.inl rfl | exact Or.inr rfl)) (pgs_cons (pg_name (i := 7) sc_part_each_other.nd rfl (by first | exact Or.inl rfl | exact Or.inr rfl)) pgs_nil))) (pgs_cons (pg_tup rfl (pgs_cons (pg_name (i := 8) sc_part_each_other.nd rfl (by first | exact Or.inl rfl | exact Or.inr rfl)) (pgs_cons (pg_name (i := 9) sc_part_each_other.nd rfl (by first | exact Or.inl rfl | exact Or.inr rfl)) pgs_nil))) pgs_nil))) pgs_nil)) (gs_cons (gs_tup (gs_cons (gs_tup (gs_cons (gs_name 2) (gs_cons (gs_name 3) gs_nil))) (gs_cons (gs_tup (gs_cons (gs_name 4) (gs_cons (gs_name 5) gs_nil))) gs_nil))) (gs_cons (gs_tup (gs_cons (gs_tup (gs_cons (gs_name 6) (gs_cons (gs_name 7) gs_nil))) (gs_cons (gs_tup (gs_cons (gs_name 8) (gs_cons (gs_name 9) gs_nil))) gs_nil))) gs_nil)))
      (ms_cons (ms_par (i := 10) (j := 11) rfl sc_part_each_other.nd rfl rfl (by decide) rfl rfl (ma_cons (m_subA (mv 4) (mv 2)) (ma_cons (m_subA (mv 5) (mv 3)) ma_nil)) rfl)
      (ms_cons (ms_if (mt_cm (cm_ge rfl hr) (m_mulC (m_subA (m_mulC (mv 10) (m_subA (mv 7) (mv 3))) (m_mulC (mv 11) (m_subA (mv 6) (mv 2)))) (m_subA (m_mulC (mv 10) (m_subA (mv 9) (mv 3))) (m_mulC (mv 11) (m_subA (mv 8) (mv 2))))) m_int (nomark _)) (ms_one (ms_ret m_bl)) ms_nil)
      (ms_cons (ms_par (i := 10) (j := 11) rfl sc_part_each_other.nd rfl rfl (by decide) rfl rfl (ma_cons (m_subA (mv 8) (mv 6)) (ma_cons (m_subA (mv 9) (mv 7)) ma_nil)) rfl)
      (ms_one (ms_ret (m_cm (cm_lt rfl hr) (m_mulC (m_subA (m_mulC (mv 10) (m_subA (mv 3) (mv 7))) (m_mulC (mv 11) (m_subA (mv 2) (mv 6)))) (m_subA (m_mulC (mv 10) (m_subA (mv 5) (mv 7))) (m_mulC (mv 11) (m_subA (mv 4) (mv 6))))) m_int (nomark _))))))))
theorem sc_halves : FnScope ["edge", "other", "low", "high", "other_low", "other_high", "arm", "far"] ["edge", "other"] (defScope (top 62)) := ⟨rfl, rfl, rfl, by decide +kernel, rfl, by decide +kernel, by decide +kernel⟩
theorem ok_halves (T : Txt g mg) : Ok g P w mg base "halves" m_halves 2 12 := ok_def (k := 11) T.d_halves sc_halves 2 6 rfl rfl fun f cdv A outer s H E hr => by
  exact (ms_cons (ms_par (i := 0) (j := 1) rfl sc_halves.nd rfl rfl (by decide) rfl rfl (ma_cons (m_cO (ok_given_edge T) rfl (hr.mono (by first | decide | omega)) rfl (takes_of rfl rfl rfl rfl) (ma_cons (mv 0) ma_nil)) (ma_cons (m_cO (ok_given_edge T) rfl (hr.mono (by first | decide | omega)) rfl (takes_of rfl rfl rfl rfl) (ma_cons (mv 1) ma_nil)) ma_nil)) rfl)
      (ms_cons (ms_asgA rfl rfl (m_tup (ma_cons (mv 0) (ma_cons (mv 1) ma_nil))) (pgs_cons (pg_tup rfl (pgs_cons (pg_name (i := 2) sc_halves.nd rfl (by first | exact Or.inl rfl | exact Or.inr rfl)) (pgs_cons (pg_name (i := 3) sc_halves.nd rfl (by first | exact Or.inl rfl | exact Or.inr rfl)) pgs_nil))) (pgs_cons (pg_tup rfl (pgs_cons (pg_name (i := 4) sc_halves.nd rfl (by first | exact Or.inl rfl | exact Or.inr rfl)) (pgs_cons (pg_name (i := 5) sc_halves.nd rfl (by first | exact Or.inl rfl | exact Or.inr rfl)) pgs_nil))) pgs_nil)) (gs_cons (gs_tup (gs_cons (gs_name 2) (gs_cons (gs_name 3) gs_nil))) (gs_cons (gs_tup (gs_cons (gs_name 4) (gs_cons (gs_name 5) gs_nil))) gs_nil)))
      (ms_cons (ms_if (PW.pt (mw_or (mt_cm (cm_eq rfl hr) (m_cO (ok_added T) rfl (hr.mono (by first | decide | omega)) rfl (takes_of rfl rfl rfl rfl) (ma_cons (mv 2) (ma_cons (mv 3) ma_nil))) (m_cO (ok_added T) rfl (hr.mono (by first | decide | omega)) rfl (takes_of rfl rfl rfl rfl) (ma_cons (mv 4) (ma_cons (mv 5) ma_nil))) (nomark _)) (mw_or1 (mt_not (mt_val (m_cO (ok_part_each_other T) rfl (hr.mono (by first | decide | omega)) rfl (takes_of rfl rfl rfl rfl) (ma_cons (mv 0) (ma_cons (mv 1) ma_nil)))))))) (ms_one (ms_raiseX rfl T.x_CanNot rfl (takes_of rfl rfl rfl rfl) rfl)) ms_nil)
      (ms_cons (ms_par (i := 6) (j := 7) rfl sc_halves.nd rfl rfl (by decide) rfl rfl (ma_cons (m_cO (ok_taken_off T) rfl (hr.mono (by first | decide | omega)) rfl (takes_of rfl rfl rfl rfl) (ma_cons (mv 3) (ma_cons (mv 2) ma_nil))) (ma_cons (m_cO (ok_taken_off T) rfl (hr.mono (by first | decide | omega)) rfl (takes_of rfl rfl rfl rfl) (ma_cons (mv 5) (ma_cons (mv 4) ma_nil))) ma_nil)) rfl)
      (ms_one (ms_ret (m_tup (ma_cons (m_cO (ok_half_away T) rfl (hr.mono (by first | decide | omega)) rfl (takes_of rfl rfl rfl rfl) (ma_cons (mv 6) (ma_cons (mv 7) ma_nil))) (ma_cons (m_cO (ok_half_away T) rfl (hr.mono (by first | decide | omega)) rfl (takes_of rfl rfl rfl rfl) (ma_cons (mv 7) (ma_cons (mv 6) ma_nil))) ma_nil)))))))))
theorem sc_check_kinds : FnScope ["arms", "arm"] ["arms"] (defScope (top 52)) := ⟨rfl, rfl, rfl, by decide +kernel, rfl, by decide +kernel, by decide +kernel⟩
theorem ok_check_kinds (T : Txt g mg) : Ok g P w mg base "check_kinds" m_check_kinds 1 2 := ok_def (k := 1) T.d_check_kinds sc_check_kinds 1 1 rfl rfl fun f cdv A outer s H E hr => by
  exact (ms_one (ms_if (mt_cm (cm_gt rfl hr) (m_lenSetA rfl rfl hr rfl T.z_len rfl T.z_set (ma_cons (m_lc (own := [("arm", 1)]) rfl sc_check_kinds.nd (mi_any rfl (mv 0)) (blkOk_by (by kernel_rfl)) (fun _ _ _ _ _ => (pg_name (i := 1) sc_check_kinds.nd rfl (by first | exact Or.inl rfl | exact Or.inr rfl))) (gs_name 1) (by decide) (fun _ _ _ _ _ => mts_nil) (fun _ _ _ _ _ => (m_cO (ok_parities T) rfl (hr.mono (by first | decide | omega)) rfl takes0 (ma_cons (mv 1) ma_nil)))) ma_nil)) m_int (nomark _)) (ms_one (ms_raiseX rfl T.x_CanNot rfl (takes_of rfl rfl rfl rfl) rfl)) ms_nil))
theorem sc_stands_in_half : FnScope ["base", "third", "one", "two"] ["base", "third"] (defScope (top 54)) := ⟨rfl, rfl, rfl, by decide +kernel, rfl, by decide +kernel, by decide +kernel⟩
theorem ok_stands_in_half (T : Txt g mg) : Ok g P w mg base "stands_in_half" m_stands_in_half 2 2 := ok_def (k := 1) T.d_stands_in_half sc_stands_in_half 2 2 rfl rfl fun f cdv A outer s H E hr => by
  exact (ms_cons (ms_asgA rfl rfl (mv 0) (pgs_cons (pg_name (i := 2) sc_stands_in_half.nd rfl (by first | exact Or.inl rfl | exact Or.inr rfl)) (pgs_cons (pg_name (i := 3) sc_stands_in_half.nd rfl (by first | exact Or.inl rfl | exact Or.inr rfl)) pgs_nil)) (gs_cons (gs_name 2) (gs_cons (gs_name 3) gs_nil)))
      (ms_one (ms_ret (m_cm (cm_gt rfl hr) (m_mulC (m_cO (ok_outer T) rfl (hr.mono (by first | decide | omega)) rfl (takes_of rfl rfl rfl rfl) (ma_cons (mv 1) (ma_cons (mv 3) ma_nil))) (m_cO (ok_outer T) rfl (hr.mono (by first | decide | omega)) rfl (takes_of rfl rfl rfl rfl) (ma_cons (mv 2) (ma_cons (mv 1) ma_nil)))) m_int (nomark _)))))
theorem sc_is_in_half : FnScope ["arm", "other", "third", "base"] ["arm", "other", "third"] (defScope (top 56)) := ⟨rfl, rfl, rfl, by decide +kernel, rfl, by decide +kernel, by decide +kernel⟩
theorem ok_is_in_half (T : Txt g mg) : Ok g P w mg base "is_in_half" m_is_in_half 3 12 := ok_def (k := 11) T.d_is_in_half sc_is_in_half 3 1 rfl rfl fun f cdv A outer s H E hr => by
  exact (ms_cons (ms_par3 (i := 0) (j := 1) (l := 2) rfl sc_is_in_half.nd rfl rfl rfl (by decide) (by decide) (by decide) rfl rfl rfl (ma_cons (m_cO (ok_given_arm T) rfl (hr.mono (by first | decide | omega)) rfl (takes_of rfl rfl rfl rfl) (ma_cons (mv 0) ma_nil)) (ma_cons (m_cO (ok_given_arm T) rfl (hr.mono (by first | decide | omega)) rfl (takes_of rfl rfl rfl rfl) (ma_cons (mv 1) ma_nil)) (ma_cons (m_cO (ok_given_arm T) rfl (hr.mono (by first | decide | omega)) rfl (takes_of rfl rfl rfl rfl) (ma_cons (mv 2) ma_nil)) ma_nil))) rfl)
      (ms_cons (ms_set (i := 3) sc_is_in_half.nd rfl (by first | exact Or.inl rfl | exact Or.inr rfl) (m_cO (ok_base_between T) rfl (hr.mono (by first | decide | omega)) rfl (takes_of rfl rfl rfl rfl) (ma_cons (mv 0) (ma_cons (mv 1) ma_nil))))
      (ms_cons (ms_expr (m_cO (ok_check_kinds T) rfl (hr.mono (by first | decide | omega)) rfl (takes_of rfl rfl rfl rfl) (ma_cons (m_tup (ma_cons (mv 0) (ma_cons (mv 2) ma_nil))) ma_nil)))
      (ms_one (ms_ret (m_cO (ok_stands_in_half T) rfl (hr.mono (by first | decide | omega)) rfl (takes_of rfl rfl rfl rfl) (ma_cons (mv 3) (ma_cons (mv 2) ma_nil))))))))
theorem sc_length : FnScope ["arm", "other"] ["arm", "other"] (defScope (top 49)) := ⟨rfl, rfl, rfl, by decide +kernel, rfl, by decide +kernel, by decide +kernel⟩
theorem ok_length (T : Txt g mg) : Ok g P w mg base "length" m_length 2 13 := ok_def (k := 12) T.d_length sc_length 2 0 rfl rfl fun f cdv A outer s H E hr => by
  exact (ms_cons (ms_asgA rfl rfl (m_cO (ok_given_alike T) rfl (hr.mono (by first | decide | omega)) rfl (takes_of rfl rfl rfl rfl) (ma_cons (mv 0) (ma_cons (mv 1) ma_nil))) (pgs_cons (pg_name (i := 0) sc_length.nd rfl (by first | exact Or.inl rfl | exact Or.inr rfl)) (pgs_cons (pg_name (i := 1) sc_length.nd rfl (by first | exact Or.inl rfl | exact Or.inr rfl)) pgs_nil)) (gs_cons (gs_name 0) (gs_cons (gs_name 1) gs_nil)))
      (ms_one (ms_ret (m_cO (ok_steps_apart T) rfl (hr.mono (by first | decide | omega)) rfl (takes_of rfl rfl rfl rfl) (ma_cons (mv 0) (ma_cons (mv 1) ma_nil))))))
theorem sc_given_all : FnScope ["value", "levels", "fits", "own", "part"] ["value", "levels", "fits"] (defScope (top 12)) := ⟨rfl, rfl, rfl, by decide +kernel, rfl, by decide +kernel, by decide +kernel⟩
theorem ok_given_all (T : Txt g mg) : Ok g P w mg base "given_all" m_given_all 3 10 := ok_def (k := 9) T.d_given_all sc_given_all 3 2 rfl rfl fun f cdv A outer s H E hr => by
  exact (ms_cons (ms_set (i := 3) sc_given_all.nd rfl (by first | exact Or.inl rfl | exact Or.inr rfl) (m_cO (ok_tupled T) rfl (hr.mono (by first | decide | omega)) rfl (takes_of rfl rfl rfl rfl) (ma_cons (mv 0) (ma_cons (m_addA (mv 1) m_int) ma_nil))))
      (ms_cons (ms_if (PW.pt (mw_or (mt_not (mt_val (x_isi rfl rfl T.z_isinstance (ma_cons (mv 3) (ma_cons (y_tuple rfl T.z_tuple) ma_nil))))) (mw_or1 (mt_not (mt_val (x_all rfl rfl rfl T.z_all (ma_cons (m_lc (own := [("part", 4)]) rfl sc_given_all.nd (mi_any rfl (mv 3)) (blkOk_by (by kernel_rfl)) (fun _ _ _ _ _ => (pg_name (i := 4) sc_given_all.nd rfl (by first | exact Or.inl rfl | exact Or.inr rfl))) (gs_name 4) (by decide) (fun _ _ _ _ _ => mts_nil) (fun _ _ _ _ _ => (m_callV rfl (ok_tab4 T) (hr.mono (by first | decide | omega)) takes0 (mv 2) (ma_cons (mv 4) ma_nil) rfl))) ma_nil))))))) (ms_one (ms_raiseX rfl T.x_Unfit rfl (takes_of rfl rfl rfl rfl) rfl)) ms_nil)
      (ms_one (ms_ret (mv 3)))))
theorem sc_given_arms : FnScope ["value", "arms"] ["value"] (defScope (top 15)) := ⟨rfl, rfl, rfl, by decide +kernel, rfl, by decide +kernel, by decide +kernel⟩
theorem ok_given_arms (T : Txt g mg) : Ok g P w mg base "given_arms" m_given_arms 1 11 := ok_def (k := 10) T.d_given_arms sc_given_arms 1 1 rfl rfl fun f cdv A outer s H E hr => by
  exact (ms_cons (ms_set (i := 1) sc_given_arms.nd rfl (by first | exact Or.inl rfl | exact Or.inr rfl) (m_cO (ok_given_all T) rfl (hr.mono (by first | decide | omega)) rfl (takes_of rfl rfl rfl rfl) (ma_cons (mv 0) (ma_cons m_int (ma_cons (m_fn (k := 13) rfl T.v_fits_arm) ma_nil)))))
      (ms_cons (ms_if (mt_cm (cm_eq rfl hr) (mv 1) (m_tup ma_nil) (nomark _)) (ms_one (ms_raiseX rfl T.x_Unfit rfl (takes_of rfl rfl rfl rfl) rfl)) ms_nil)
      (ms_one (ms_ret (mv 1)))))
theorem sc_many_in_half : FnScope ["arm", "other", "arms", "base", "own"] ["arm", "other", "arms"] (defScope (top 57)) := ⟨rfl, rfl, rfl, by decide +kernel, rfl, by decide +kernel, by decide +kernel⟩
theorem ok_many_in_half (T : Txt g mg) : Ok g P w mg base "many_in_half" m_many_in_half 3 12 := ok_def (k := 11) T.d_many_in_half sc_many_in_half 3 2 rfl rfl fun f cdv A outer s H E hr => by
  exact (ms_cons (ms_par3 (i := 0) (j := 1) (l := 2) rfl sc_many_in_half.nd rfl rfl rfl (by decide) (by decide) (by decide) rfl rfl rfl (ma_cons (m_cO (ok_given_arm T) rfl (hr.mono (by first | decide | omega)) rfl (takes_of rfl rfl rfl rfl) (ma_cons (mv 0) ma_nil)) (ma_cons (m_cO (ok_given_arm T) rfl (hr.mono (by first | decide | omega)) rfl (takes_of rfl rfl rfl rfl) (ma_cons (mv 1) ma_nil)) (ma_cons (m_cO (ok_given_arms T) rfl (hr.mono (by first | decide | omega)) rfl (takes_of rfl rfl rfl rfl) (ma_cons (mv 2) ma_nil)) ma_nil))) rfl)
      (ms_cons (ms_set (i := 3) sc_many_in_half.nd rfl (by first | exact Or.inl rfl | exact Or.inr rfl) (m_cO (ok_base_between T) rfl (hr.mono (by first | decide | omega)) rfl (takes_of rfl rfl rfl rfl) (ma_cons (mv 0) (ma_cons (mv 1) ma_nil))))
      (ms_cons (ms_expr (m_cO (ok_check_kinds T) rfl (hr.mono (by first | decide | omega)) rfl (takes_of rfl rfl rfl rfl) (ma_cons (m_tup (ma_cons (mv 0) (ma_star' rfl (mv 2) ma_nil))) ma_nil)))
      (ms_one (ms_ret (x_len rfl rfl T.z_len (ma_cons (m_lc (own := [("own", 4)]) rfl sc_many_in_half.nd (mi_any rfl (mv 2)) (blkOk_by (by kernel_rfl)) (fun _ _ _ _ _ => (pg_name (i := 4) sc_many_in_half.nd rfl (by first | exact Or.inl rfl | exact Or.inr rfl))) (gs_name 4) (by decide) (fun _ _ _ _ _ => (mts_one (mt_val (m_cO (ok_stands_in_half T) rfl (hr.mono (by first | decide | omega)) rfl takes0 (ma_cons (mv 3) (ma_cons (mv 4) ma_nil)))))) (fun _ _ _ _ _ => (mv 4))) ma_nil)))))))
theorem sc_arm_between : FnScope ["arm", "other", "number"] ["arm", "other", "number"] (defScope (top 40)) := ⟨rfl, rfl, rfl, by decide +kernel, rfl, by decide +kernel, by decide +kernel⟩
theorem ok_arm_between (T : Txt g mg) : Ok g P w mg base "arm_between" m_arm_between 3 6 := ok_def (k := 5) T.d_arm_between sc_arm_between 3 0 rfl rfl fun f cdv A outer s H E hr => by
  exact (ms_one (ms_ret (m_cO (ok_arm_on T) rfl (hr.mono (by first | decide | omega)) rfl (takes_of rfl rfl rfl rfl) (ma_cons (m_cO (ok_runs_between T) rfl (hr.mono (by first | decide | omega)) rfl (takes_of rfl rfl rfl rfl) (ma_cons (mv 0) (ma_cons (mv 1) ma_nil))) (ma_cons (mv 1) (ma_cons (mv 2) ma_nil))))))
theorem sc_median_among : FnScope ["arms", "spot", "goal", "span", "shared", "arm"] ["arms"] (defScope (top 61)) := ⟨rfl, rfl, rfl, by decide +kernel, rfl, by decide +kernel, by decide +kernel⟩
theorem ok_median_among (T : Txt g mg) : Ok g P w mg base "median_among" m_median_among 1 7 := ok_def (k := 6) T.d_median_among sc_median_among 1 5 rfl rfl fun f cdv A outer s H E hr => by
  exact (ms_cons (ms_set (i := 1) sc_median_among.nd rfl (by first | exact Or.inl rfl | exact Or.inr rfl) (m_ix rfl (mv 0) m_int))
      (ms_cons (ms_for (passes_of rfl) rfl (mi_any rfl (mv 0)) (pg_name (i := 2) sc_median_among.nd rfl (by first | exact Or.inl rfl | exact Or.inr rfl)) (gs_name 2) (ms_cons (ms_set (i := 3) sc_median_among.nd rfl (by first | exact Or.inl rfl | exact Or.inr rfl) (m_cO (ok_steps_apart T) rfl (hr.mono (by first | decide | omega)) rfl (takes_of rfl rfl rfl rfl) (ma_cons (mv 1) (ma_cons (mv 2) ma_nil))))
      (ms_cons (ms_set (i := 4) sc_median_among.nd rfl (by first | exact Or.inl rfl | exact Or.inr rfl) (x_sortC rfl rfl hr rfl T.z_sorted (ma_cons (m_lc (own := [("arm", 5)]) rfl sc_median_among.nd (mi_any rfl (mv 0)) (blkOk_by (by kernel_rfl)) (fun _ _ _ _ _ => (pg_name (i := 5) sc_median_among.nd rfl (by first | exact Or.inl rfl | exact Or.inr rfl))) (gs_name 5) (by decide) (fun _ _ _ _ _ => mts_nil) (fun _ _ _ _ _ => (m_divB (m_subA (m_addA (mv 3) (m_cO (ok_steps_apart T) rfl (hr.mono (by first | decide | omega)) rfl takes0 (ma_cons (mv 1) (ma_cons (mv 5) ma_nil)))) (m_cO (ok_steps_apart T) rfl (hr.mono (by first | decide | omega)) rfl takes0 (ma_cons (mv 5) (ma_cons (mv 2) ma_nil)))) m_int))) ma_nil)))
      (ms_one (ms_set (i := 1) sc_median_among.nd rfl (by first | exact Or.inl rfl | exact Or.inr rfl) (m_cO (ok_arm_between T) rfl (hr.mono (by first | decide | omega)) rfl (takes_of rfl rfl rfl rfl) (ma_cons (mv 1) (ma_cons (mv 2) (ma_cons (m_ix rfl (mv 4) (m_divB (x_len rfl rfl T.z_len (ma_cons (mv 0) ma_nil)) m_int)) ma_nil)))))))))
      (ms_one (ms_ret (mv 1)))))
theorem sc_median : FnScope ["arms"] ["arms"] (defScope (top 60)) := ⟨rfl, rfl, rfl, by decide +kernel, rfl, by decide +kernel, by decide +kernel⟩
theorem ok_median (T : Txt g mg) : Ok g P w mg base "median" m_median 1 12 := ok_def (k := 11) T.d_median sc_median 1 0 rfl rfl fun f cdv A outer s H E hr => by
  exact (ms_cons (ms_set (i := 0) sc_median.nd rfl (by first | exact Or.inl rfl | exact Or.inr rfl) (m_cO (ok_given_arms T) rfl (hr.mono (by first | decide | omega)) rfl (takes_of rfl rfl rfl rfl) (ma_cons (mv 0) ma_nil)))
      (ms_cons (ms_if (mt_cm (cm_eq rfl hr) (m_mod (x_len rfl rfl T.z_len (ma_cons (mv 0) ma_nil)) m_int) m_int (nomark _)) (ms_one (ms_raiseX rfl T.x_CanNot rfl (takes_of rfl rfl rfl rfl) rfl)) ms_nil)
      (ms_cons (ms_expr (m_cO (ok_check_kinds T) rfl (hr.mono (by first | decide | omega)) rfl (takes_of rfl rfl rfl rfl) (ma_cons (mv 0) ma_nil)))
      (ms_one (ms_ret (m_cO (ok_median_among T) rfl (hr.mono (by first | decide | omega)) rfl (takes_of rfl rfl rfl rfl) (ma_cons (mv 0) ma_nil)))))))
theorem sc_multiples_within : FnScope ["start", "step", "most"] ["start", "step", "most"] (defScope (top 31)) := ⟨rfl, rfl, rfl, by decide +kernel, rfl, by decide +kernel, by decide +kernel⟩
theorem ok_multiples_within (T : Txt g mg) : Ok g P w mg base "multiples_within" m_multiples_within 3 1 := ok_def (k := 0) T.d_multiples_within sc_multiples_within 3 0 rfl rfl fun f cdv A outer s H E hr => by
  exact (ms_cons (ms_if (mt_cm (cm_lt rfl hr) (mv 1) m_int (nomark _)) (ms_one (ms_par (i := 0) (j := 1) rfl sc_multiples_within.nd rfl rfl (by decide) rfl rfl (ma_cons (m_neg (mv 0)) (ma_cons (m_neg (mv 1)) ma_nil)) rfl)) ms_nil)
      (ms_one (ms_ret (m_tup (ma_cons (m_neg (m_divB (m_addA (mv 2) (mv 0)) (mv 1))) (ma_cons (m_divB (m_subA (mv 2) (mv 0)) (mv 1)) ma_nil))))))
theorem sc_neighbours : FnScope ["arm", "most", "start", "lows", "highs", "number", "share", "low", "high", "many"] ["arm", "most"] (defScope (top 43)) := ⟨rfl, rfl, rfl, by decide +kernel, rfl, by decide +kernel, by decide +kernel⟩
theorem ok_neighbours (T : Txt g mg) : Ok g P w mg base "neighbours" m_neighbours 2 12 := ok_def (k := 11) T.d_neighbours sc_neighbours 2 8 rfl rfl fun f cdv A outer s H E hr => by
  exact (ms_cons (ms_asgA rfl rfl (m_tup (ma_cons (m_cO (ok_given_arm T) rfl (hr.mono (by first | decide | omega)) rfl (takes_of rfl rfl rfl rfl) (ma_cons (mv 0) ma_nil)) (ma_cons (m_cO (ok_given_count T) rfl (hr.mono (by first | decide | omega)) rfl (takes_of rfl rfl rfl rfl) (ma_cons (mv 1) ma_nil)) ma_nil))) (pgs_cons (pg_name (i := 0) sc_neighbours.nd rfl (by first | exact Or.inl rfl | exact Or.inr rfl)) (pgs_cons (pg_name (i := 1) sc_neighbours.nd rfl (by first | exact Or.inl rfl | exact Or.inr rfl)) pgs_nil)) (gs_cons (gs_name 0) (gs_cons (gs_name 1) gs_nil)))
      (ms_cons (ms_set (i := 2) sc_neighbours.nd rfl (by first | exact Or.inl rfl | exact Or.inr rfl) (m_cO (ok_one_neighbour T) rfl (hr.mono (by first | decide | omega)) rfl (takes_of rfl rfl rfl rfl) (ma_cons (mv 0) ma_nil)))
      (ms_cons (ms_par (i := 3) (j := 4) rfl sc_neighbours.nd rfl rfl (by decide) rfl rfl (ma_cons (m_lst ma_nil) (ma_cons (m_lst ma_nil) ma_nil)) rfl)
      (ms_cons (ms_for (passes_of rfl) rfl (mi_zip rfl rfl T.z_zip (ma_cons (mv 2) (ma_cons (mv 0) ma_nil))) (pg_tup rfl (pgs_cons (pg_name (i := 5) sc_neighbours.nd rfl (by first | exact Or.inl rfl | exact Or.inr rfl)) (pgs_cons (pg_name (i := 6) sc_neighbours.nd rfl (by first | exact Or.inl rfl | exact Or.inr rfl)) pgs_nil))) (gs_tup (gs_cons (gs_name 5) (gs_cons (gs_name 6) gs_nil))) (ms_cons (ms_if (PW.pt (mw_and (mt_cm (cm_eq rfl hr) (mv 6) m_int (nomark _)) (mw_and1 (mt_cm (cm_gt rfl hr) (x_abs rfl rfl T.z_abs (ma_cons (mv 5) ma_nil)) (mv 1) (nomark _))))) (ms_one (ms_ret (m_lst ma_nil))) ms_nil)
      (ms_one (ms_if (mt_cm (cm_ne rfl hr) (mv 6) m_int (nomark _)) (ms_cons (ms_asgA rfl rfl (m_cO (ok_multiples_within T) rfl (hr.mono (by first | decide | omega)) rfl (takes_of rfl rfl rfl rfl) (ma_cons (mv 5) (ma_cons (m_mulC m_int (mv 6)) (ma_cons (mv 1) ma_nil)))) (pgs_cons (pg_name (i := 7) sc_neighbours.nd rfl (by first | exact Or.inl rfl | exact Or.inr rfl)) (pgs_cons (pg_name (i := 8) sc_neighbours.nd rfl (by first | exact Or.inl rfl | exact Or.inr rfl)) pgs_nil)) (gs_cons (gs_name 7) (gs_cons (gs_name 8) gs_nil)))
      (ms_cons (ms_expr (m_append rfl (mv 3) (ma_cons (mv 7) ma_nil)))
      (ms_one (ms_expr (m_append rfl (mv 4) (ma_cons (mv 8) ma_nil)))))) ms_nil))))
      (ms_cons (ms_par (i := 7) (j := 8) rfl sc_neighbours.nd rfl rfl (by decide) rfl rfl (ma_cons (x_max1 rfl rfl rfl T.z_max (ma_cons (mv 3) ma_nil)) (ma_cons (x_minA rfl rfl hr rfl T.z_min (ma_cons (mv 4) ma_nil)) ma_nil)) rfl)
      (ms_cons (ms_if (mt_cm (cm_ge rfl hr) (m_subA (mv 8) (mv 7)) (m_gint rfl (Classical.choose_spec T.c_MOST_NEIGHBOURS)) (nomark _)) (ms_one (ms_raiseX rfl T.x_TooMany rfl (takes_of rfl rfl rfl rfl) rfl)) ms_nil)
      (ms_one (ms_ret (x_sortC rfl rfl hr rfl T.z_sorted (ma_cons (m_lc (own := [("many", 9)]) rfl sc_neighbours.nd (mi_rng2 rfl T.z_range (ma_cons (mv 7) (ma_cons (m_addA (mv 8) m_int) ma_nil))) (blkOk_by (by kernel_rfl)) (fun _ _ _ _ _ => (pg_name (i := 9) sc_neighbours.nd rfl (by first | exact Or.inl rfl | exact Or.inr rfl))) (gs_name 9) (by decide) (fun _ _ _ _ _ => mts_nil) (fun _ _ _ _ _ => (m_cO (ok_signed_arm T) rfl (hr.mono (by first | decide | omega)) rfl takes0 (ma_cons (m_cO (ok_added T) rfl (hr.mono (by first | decide | omega)) rfl takes0 (ma_cons (mv 2) (ma_cons (m_cO (ok_times T) rfl (hr.mono (by first | decide | omega)) rfl takes0 (ma_cons (m_mulC m_int (mv 9)) (ma_cons (mv 0) ma_nil))) ma_nil))) ma_nil)))) ma_nil))))))))))
theorem sc_root_of : FnScope ["arm"] ["arm"] (defScope (top 45)) := ⟨rfl, rfl, rfl, by decide +kernel, rfl, by decide +kernel, by decide +kernel⟩
theorem ok_root_of (T : Txt g mg) : Ok g P w mg base "root_of" m_root_of 1 12 := ok_def (k := 11) T.d_root_of sc_root_of 1 0 rfl rfl fun f cdv A outer s H E hr => by
  exact (ms_one (ms_ret (m_cO (ok_parities T) rfl (hr.mono (by first | decide | omega)) rfl (takes_of rfl rfl rfl rfl) (ma_cons (m_cO (ok_given_arm T) rfl (hr.mono (by first | decide | omega)) rfl (takes_of rfl rfl rfl rfl) (ma_cons (mv 0) ma_nil)) ma_nil))))
theorem sc_lengths_to : FnScope ["arms", "arm", "own"] ["arms", "arm"] (defScope (top 59)) := ⟨rfl, rfl, rfl, by decide +kernel, rfl, by decide +kernel, by decide +kernel⟩
theorem ok_lengths_to (T : Txt g mg) : Ok g P w mg base "lengths_to" m_lengths_to 2 7 := ok_def (k := 6) T.d_lengths_to sc_lengths_to 2 1 rfl rfl fun f cdv A outer s H E hr => by
  exact (ms_one (ms_ret (x_sum rfl rfl rfl T.z_sum (ma_cons (m_lc (own := [("own", 2)]) rfl sc_lengths_to.nd (mi_any rfl (mv 0)) (blkOk_by (by kernel_rfl)) (fun _ _ _ _ _ => (pg_name (i := 2) sc_lengths_to.nd rfl (by first | exact Or.inl rfl | exact Or.inr rfl))) (gs_name 2) (by decide) (fun _ _ _ _ _ => mts_nil) (fun _ _ _ _ _ => (m_cO (ok_steps_apart T) rfl (hr.mono (by first | decide | omega)) rfl takes0 (ma_cons (mv 2) (ma_cons (mv 1) ma_nil))))) ma_nil))))
theorem sc_sum_of_ways : FnScope ["arms", "arm"] ["arms", "arm"] (defScope (top 58)) := ⟨rfl, rfl, rfl, by decide +kernel, rfl, by decide +kernel, by decide +kernel⟩
theorem ok_sum_of_ways (T : Txt g mg) : Ok g P w mg base "sum_of_ways" m_sum_of_ways 2 12 := ok_def (k := 11) T.d_sum_of_ways sc_sum_of_ways 2 0 rfl rfl fun f cdv A outer s H E hr => by
  exact (ms_cons (ms_par (i := 0) (j := 1) rfl sc_sum_of_ways.nd rfl rfl (by decide) rfl rfl (ma_cons (m_cO (ok_given_arms T) rfl (hr.mono (by first | decide | omega)) rfl (takes_of rfl rfl rfl rfl) (ma_cons (mv 0) ma_nil)) (ma_cons (m_cO (ok_given_arm T) rfl (hr.mono (by first | decide | omega)) rfl (takes_of rfl rfl rfl rfl) (ma_cons (mv 1) ma_nil)) ma_nil)) rfl)
      (ms_cons (ms_expr (m_cO (ok_check_kinds T) rfl (hr.mono (by first | decide | omega)) rfl (takes_of rfl rfl rfl rfl) (ma_cons (m_tup (ma_cons (mv 1) (ma_star' rfl (mv 0) ma_nil))) ma_nil)))
      (ms_one (ms_ret (m_cO (ok_lengths_to T) rfl (hr.mono (by first | decide | omega)) rfl (takes_of rfl rfl rfl rfl) (ma_cons (mv 0) (ma_cons (mv 1) ma_nil)))))))
theorem sc_arms_along : FnScope ["arm", "other", "runs", "stops", "start", "step", "many", "number", "stop"] ["arm", "other"] (defScope (top 39)) := ⟨rfl, rfl, rfl, by decide +kernel, rfl, by decide +kernel, by decide +kernel⟩
theorem ok_arms_along (T : Txt g mg) : Ok g P w mg base "arms_along" m_arms_along 2 6 := ok_def (k := 5) T.d_arms_along sc_arms_along 2 7 rfl rfl fun f cdv A outer s H E hr => by
  exact (ms_cons (ms_set (i := 2) sc_arms_along.nd rfl (by first | exact Or.inl rfl | exact Or.inr rfl) (m_cO (ok_runs_between T) rfl (hr.mono (by first | decide | omega)) rfl (takes_of rfl rfl rfl rfl) (ma_cons (mv 0) (ma_cons (mv 1) ma_nil))))
      (ms_cons (ms_setLc2 (i := 3) (own := [("start", 4), ("step", 5), ("many", 6), ("number", 7)]) (vs1 := [7]) rfl sc_arms_along.nd rfl rfl rfl (mi_any rfl (mv 2)) (blkOk_by (by kernel_rfl)) (by decide) (fun _ _ _ _ _ => (pg_tup rfl (pgs_cons (pg_name (i := 4) sc_arms_along.nd rfl (by first | exact Or.inl rfl | exact Or.inr rfl)) (pgs_cons (pg_name (i := 5) sc_arms_along.nd rfl (by first | exact Or.inl rfl | exact Or.inr rfl)) (pgs_cons (pg_name (i := 6) sc_arms_along.nd rfl (by first | exact Or.inl rfl | exact Or.inr rfl)) pgs_nil))))) (gs_tup (gs_cons (gs_name 4) (gs_cons (gs_name 5) (gs_cons (gs_name 6) gs_nil)))) (by decide) (fun _ _ _ _ _ => mts_nil) (fun _ _ _ _ _ => (mi_rng1 rfl T.z_range (ma_cons (mv 6) ma_nil))) (fun _ _ _ _ _ => (pg_name (i := 7) sc_arms_along.nd rfl (by first | exact Or.inl rfl | exact Or.inr rfl))) (gs_name 7) (by decide) (fun _ _ _ _ _ => mts_nil) (fun _ _ _ _ _ => (m_cO (ok_taken_off T) rfl (hr.mono (by first | decide | omega)) rfl takes0 (ma_cons (mv 4) (ma_cons (m_cO (ok_times T) rfl (hr.mono (by first | decide | omega)) rfl takes0 (ma_cons (mv 7) (ma_cons (mv 5) ma_nil))) ma_nil)))))
      (ms_one (ms_ret (x_tuple rfl rfl T.z_tuple (ma_cons (m_addA (m_lc (own := [("stop", 8)]) rfl sc_arms_along.nd (mi_any rfl (mv 3)) (blkOk_by (by kernel_rfl)) (fun _ _ _ _ _ => (pg_name (i := 8) sc_arms_along.nd rfl (by first | exact Or.inl rfl | exact Or.inr rfl))) (gs_name 8) (by decide) (fun _ _ _ _ _ => mts_nil) (fun _ _ _ _ _ => (m_cO (ok_signed_arm T) rfl (hr.mono (by first | decide | omega)) rfl takes0 (ma_cons (mv 8) ma_nil)))) (m_lst (ma_cons (mv 1) ma_nil))) ma_nil))))))
theorem sc_way : FnScope ["arm", "other"] ["arm", "other"] (defScope (top 48)) := ⟨rfl, rfl, rfl, by decide +kernel, rfl, by decide +kernel, by decide +kernel⟩
theorem ok_way (T : Txt g mg) : Ok g P w mg base "way" m_way 2 13 := ok_def (k := 12) T.d_way sc_way 2 0 rfl rfl fun f cdv A outer s H E hr => by
  exact (ms_cons (ms_asgA rfl rfl (m_cO (ok_given_alike T) rfl (hr.mono (by first | decide | omega)) rfl (takes_of rfl rfl rfl rfl) (ma_cons (mv 0) (ma_cons (mv 1) ma_nil))) (pgs_cons (pg_name (i := 0) sc_way.nd rfl (by first | exact Or.inl rfl | exact Or.inr rfl)) (pgs_cons (pg_name (i := 1) sc_way.nd rfl (by first | exact Or.inl rfl | exact Or.inr rfl)) pgs_nil)) (gs_cons (gs_name 0) (gs_cons (gs_name 1) gs_nil)))
      (ms_cons (ms_if (mt_cm (cm_ge rfl hr) (m_cO (ok_steps_apart T) rfl (hr.mono (by first | decide | omega)) rfl (takes_of rfl rfl rfl rfl) (ma_cons (mv 0) (ma_cons (mv 1) ma_nil))) (m_gint rfl (Classical.choose_spec T.c_MOST_ARMS)) (nomark _)) (ms_one (ms_raiseX rfl T.x_TooMany rfl (takes_of rfl rfl rfl rfl) rfl)) ms_nil)
      (ms_one (ms_ret (m_cO (ok_arms_along T) rfl (hr.mono (by first | decide | omega)) rfl (takes_of rfl rfl rfl rfl) (ma_cons (mv 0) (ma_cons (mv 1) ma_nil)))))))
theorem ok_tab2 (T : Txt g mg) : TabOk g P w mg base 13 tab2 := tab_of fun k np m e => by
  unfold tab2 at e
  split at e
  · injection e with e; injection e with e1 e2; subst e1; subst e2; exact ⟨_, (ok_neighbours T).mono (by decide), T.v_neighbours⟩
  · injection e with e; injection e with e1 e2; subst e1; subst e2; exact ⟨_, (ok_base_of T).mono (by decide), T.v_base_of⟩
  · injection e with e; injection e with e1 e2; subst e1; subst e2; exact ⟨_, (ok_length T).mono (by decide), T.v_length⟩
  · injection e with e; injection e with e1 e2; subst e1; subst e2; exact ⟨_, (ok_way T).mono (by decide), T.v_way⟩
  · injection e with e; injection e with e1 e2; subst e1; subst e2; exact ⟨_, (ok_are_neighbours T).mono (by decide), T.v_are_neighbours⟩
  · cases e
theorem ok_tab1 (T : Txt g mg) : TabOk g P w mg base 13 tab1 := tab_of fun k np m e => by
  unfold tab1 at e
  split at e
  · injection e with e; injection e with e1 e2; subst e1; subst e2; exact ⟨_, (ok_many_in_half T).mono (by decide), T.v_many_in_half⟩
  · injection e with e; injection e with e1 e2; subst e1; subst e2; exact ⟨_, (ok_is_in_half T).mono (by decide), T.v_is_in_half⟩
  · injection e with e; injection e with e1 e2; subst e1; subst e2; exact ⟨_, (ok_at_step T).mono (by decide), T.v_at_step⟩
  · cases e
theorem ok_tab3 (T : Txt g mg) : TabOk g P w mg base 12 tab3 := tab_of fun k np m e => by
  unfold tab3 at e
  split at e
  · injection e with e; injection e with e1 e2; subst e1; subst e2; exact ⟨_, (ok_depth T).mono (by decide), T.v_depth⟩
  · injection e with e; injection e with e1 e2; subst e1; subst e2; exact ⟨_, (ok_root_of T).mono (by decide), T.v_root_of⟩
  · injection e with e; injection e with e1 e2; subst e1; subst e2; exact ⟨_, (ok_elder T).mono (by decide), T.v_elder⟩
  · cases e
theorem ok_tab0 (T : Txt g mg) : TabOk g P w mg base 12 tab0 := tab_of fun k np m e => by
  unfold tab0 at e
  split at e
  · injection e with e; injection e with e1 e2; subst e1; subst e2; exact ⟨_, (ok_halves T).mono (by decide), T.v_halves⟩
  · injection e with e; injection e with e1 e2; subst e1; subst e2; exact ⟨_, (ok_sum_of_ways T).mono (by decide), T.v_sum_of_ways⟩
  · cases e
theorem sc__law_told : FnScope ["door", "one_so", "two_so", "three_so"] ["door", "one_so", "two_so", "three_so"] (defScope (top 69)) := ⟨rfl, rfl, rfl, by decide +kernel, rfl, by decide +kernel, by decide +kernel⟩
theorem ok__law_told (T : Txt g mg) : Ok g P w mg base "_law_told" m__law_told 4 14 := ok_def (k := 13) T.d__law_told sc__law_told 4 0 rfl rfl fun f cdv A outer s H E hr => by
  exact (ms_cons (ms_if (mt_cm (cm_lt rfl hr) (mv 0) m_int (nomark _)) (ms_one (ms_ret (m_callV rfl (ok_tab3 T) (hr.mono (by first | decide | omega)) (takes_of rfl rfl rfl rfl) (m_ix rfl (m_lst (ma_cons (m_fn (k := 12) rfl T.v_elder) (ma_cons (m_fn (k := 11) rfl T.v_root_of) (ma_cons (m_fn (k := 10) rfl T.v_depth) ma_nil)))) (mv 0)) (ma_cons (mv 1) ma_nil) rfl))) ms_nil)
      (ms_cons (ms_if (mt_cm (cm_lt rfl hr) (mv 0) m_int (nomark _)) (ms_one (ms_ret (m_callV rfl (ok_tab2 T) (hr.mono (by first | decide | omega)) (takes_of rfl rfl rfl rfl) (m_ix rfl (m_lst (ma_cons (m_fn (k := 9) rfl T.v_are_neighbours) (ma_cons (m_fn (k := 8) rfl T.v_way) (ma_cons (m_fn (k := 7) rfl T.v_length) (ma_cons (m_fn (k := 6) rfl T.v_base_of) (ma_cons (m_fn (k := 5) rfl T.v_neighbours) ma_nil)))))) (m_subA (mv 0) m_int)) (ma_cons (mv 1) (ma_cons (mv 2) ma_nil)) rfl))) ms_nil)
      (ms_cons (ms_if (mt_cm (cm_lt rfl hr) (mv 0) m_int (nomark _)) (ms_one (ms_ret (m_callV rfl (ok_tab1 T) (hr.mono (by first | decide | omega)) (takes_of rfl rfl rfl rfl) (m_ix rfl (m_lst (ma_cons (m_fn (k := 4) rfl T.v_at_step) (ma_cons (m_fn (k := 3) rfl T.v_is_in_half) (ma_cons (m_fn (k := 2) rfl T.v_many_in_half) ma_nil)))) (m_subA (mv 0) m_int)) (ma_cons (mv 1) (ma_cons (mv 2) (ma_cons (mv 3) ma_nil))) rfl))) ms_nil)
      (ms_one (ms_ret (m_ifE (mt_cm (cm_eq rfl hr) (mv 0) m_int (nomark _)) (m_cO (ok_median T) rfl (hr.mono (by first | decide | omega)) rfl (takes_of rfl rfl rfl rfl) (ma_cons (mv 1) ma_nil)) (m_callV rfl (ok_tab0 T) (hr.mono (by first | decide | omega)) (takes_of rfl rfl rfl rfl) (m_ix rfl (m_lst (ma_cons (m_fn (k := 1) rfl T.v_sum_of_ways) (ma_cons (m_fn (k := 0) rfl T.v_halves) ma_nil))) (m_subA (mv 0) m_int)) (ma_cons (mv 1) (ma_cons (mv 2) ma_nil)) rfl)))))))
theorem sc__law_heard : FnScope ["door", "one_so", "two_so", "three_so", "told", "flaw_a", "flaw_b", "flaw_c"] ["door", "one_so", "two_so", "three_so"] (defScope (top 70)) := ⟨rfl, rfl, rfl, by decide +kernel, rfl, by decide +kernel, by decide +kernel⟩
theorem ok__law_heard (T : Txt g mg) : Ok g P w mg base "_law_heard" m__law_heard 4 15 := ok_def (k := 14) T.d__law_heard sc__law_heard 4 4 rfl rfl fun f cdv A outer s H E hr => by
  exact (ms_cons (ms_set (i := 4) sc__law_heard.nd rfl (by first | exact Or.inl rfl | exact Or.inr rfl) m_non)
      (ms_cons (ms_try (nc := 3) rfl T.hx rfl rfl (takes_of rfl rfl rfl rfl) (fun W pn xe tkT hpT => (ms_one (ms_set (i := 4) sc__law_heard.nd rfl (by first | exact Or.inl rfl | exact Or.inr rfl) (m_cO (ok__law_told T) rfl (hr.mono (by first | decide | omega)) rfl tkT (ma_cons (mv 0) (ma_cons (mv 1) (ma_cons (mv 2) (ma_cons (mv 3) ma_nil)))))))) (HdsAs.cons (i := 5) sc__law_heard.nd rfl rfl ⟨rfl, by decide, Or.inl T.x_Unfit.m⟩ (fun a oe cls d pn hz0 hf => su_any' hz0 fun hz => (su_set (j := 4) sc__law_heard.nd rfl rfl (c_lst (ca_cons (c_of m_str) (ca_cons (c_isE T.x_Unfit.ex hz hf rfl T.z_isinstance rfl (Or.inl rfl) rfl rfl rfl T.z_ValueError boot_ValueError (by decide) rfl T.x_Unfit.kit) ca_nil))))) (HdsAs.cons (i := 6) sc__law_heard.nd rfl rfl ⟨rfl, by decide, Or.inl T.x_CanNot.m⟩ (fun a oe cls d pn hz0 hf => su_any' hz0 fun hz => (su_set (j := 4) sc__law_heard.nd rfl rfl (c_lst (ca_cons (c_of m_str) (ca_cons (c_isE T.x_CanNot.ex hz hf rfl T.z_isinstance rfl (Or.inl rfl) rfl rfl rfl T.z_ValueError boot_ValueError (by decide) rfl T.x_CanNot.kit) ca_nil))))) (HdsAs.cons (i := 7) sc__law_heard.nd rfl rfl ⟨rfl, by decide, Or.inl T.x_TooMany.m⟩ (fun a oe cls d pn hz0 hf => su_any' hz0 fun hz => (su_set (j := 4) sc__law_heard.nd rfl rfl (c_lst (ca_cons (c_of m_str) (ca_cons (c_isE T.x_TooMany.ex hz hf rfl T.z_isinstance rfl (Or.inl rfl) rfl rfl rfl T.z_ValueError boot_ValueError (by decide) rfl T.x_TooMany.kit) ca_nil))))) HdsAs.nil))) (by decide))
      (ms_one (ms_ret (mv 4)))))
theorem sc__law_same : FnScope ["got", "due", "mine", "its"] ["got", "due"] (defScope (top 68)) := ⟨rfl, rfl, rfl, by decide +kernel, rfl, by decide +kernel, by decide +kernel⟩
theorem ok__law_sameR (T : Txt g mg) : ∀ n, Ok g P w mg base "_law_same" (m__law_sameR n) 2 (n + 0 + 1)
  | 0 => (ok_none (k := 0) T.d__law_same sc__law_same 2 rfl).mono (by omega)
  | n + 1 => by
    have ih := ok__law_sameR T n
    refine (ok_def (k := n + 0 + 1) T.d__law_same sc__law_same 2 2 rfl rfl fun f cdv A outer s H E hr => ?_).mono (by omega)
    exact (ms_cons (ms_if (mt_val (x_isi rfl rfl T.z_isinstance (ma_cons (mv 1) (ma_cons (m_tup (ma_cons (y_list rfl T.z_list) (ma_cons (y_tuple rfl T.z_tuple) ma_nil))) ma_nil)))) (ms_cons (ms_if (PW.pt (mw_or (mt_cm (cm_ne rfl hr) (x_isi rfl rfl T.z_isinstance (ma_cons (mv 0) (ma_cons (y_list rfl T.z_list) ma_nil))) (x_isi rfl rfl T.z_isinstance (ma_cons (mv 1) (ma_cons (y_list rfl T.z_list) ma_nil))) (nomark _)) (mw_or1 (mt_cm (cm_ne rfl hr) (x_isi rfl rfl T.z_isinstance (ma_cons (mv 0) (ma_cons (y_tuple rfl T.z_tuple) ma_nil))) (x_isi rfl rfl T.z_isinstance (ma_cons (mv 1) (ma_cons (y_tuple rfl T.z_tuple) ma_nil))) (nomark _))))) (ms_one (ms_ret m_bl)) ms_nil)
      (ms_one (ms_ret (m_andE (m_cm (cm_eq rfl hr) (x_len rfl rfl T.z_len (ma_cons (mv 0) ma_nil)) (x_len rfl rfl T.z_len (ma_cons (mv 1) ma_nil)) (nomark _)) (m_oneE (x_all rfl rfl rfl T.z_all (ma_cons (m_lc (own := [("mine", 2), ("its", 3)]) rfl sc__law_same.nd (mi_zip rfl rfl T.z_zip (ma_cons (mv 0) (ma_cons (mv 1) ma_nil))) (blkOk_by (by kernel_rfl)) (fun _ _ _ _ _ => (pg_tup rfl (pgs_cons (pg_name (i := 2) sc__law_same.nd rfl (by first | exact Or.inl rfl | exact Or.inr rfl)) (pgs_cons (pg_name (i := 3) sc__law_same.nd rfl (by first | exact Or.inl rfl | exact Or.inr rfl)) pgs_nil)))) (gs_tup (gs_cons (gs_name 2) (gs_cons (gs_name 3) gs_nil))) (by decide) (fun _ _ _ _ _ => mts_nil) (fun _ _ _ _ _ => (m_cO ih rfl (hr.mono (by first | decide | omega)) rfl takes0 (ma_cons (mv 2) (ma_cons (mv 3) ma_nil))))) ma_nil))))))) ms_nil)
      (ms_cons (ms_if (PW.pt (mw_or (mt_cm (cm_is rfl hr) (mv 1) m_non (nomark _)) (mw_or1 (mt_val (x_isi rfl rfl T.z_isinstance (ma_cons (mv 1) (ma_cons (m_tup (ma_cons (y_bool rfl T.z_bool) (ma_cons (y_str rfl T.z_str) ma_nil))) ma_nil))))))) (ms_one (ms_ret (m_andE (m_cm (cm_eq rfl hr) (mv 0) (mv 1) (nomark _)) (m_andE (m_cm (cm_eq rfl hr) (x_isi rfl rfl T.z_isinstance (ma_cons (mv 0) (ma_cons (y_bool rfl T.z_bool) ma_nil))) (x_isi rfl rfl T.z_isinstance (ma_cons (mv 1) (ma_cons (y_bool rfl T.z_bool) ma_nil))) (nomark _)) (m_oneE (m_cm (cm_eq rfl hr) (m_cm (cm_is rfl hr) (mv 0) m_non (nomark _)) (m_cm (cm_is rfl hr) (mv 1) m_non (nomark _)) (nomark _))))))) ms_nil)
      (ms_one (ms_ret (m_andE (x_isi rfl rfl T.z_isinstance (ma_cons (mv 0) (ma_cons (y_int rfl T.z_int) ma_nil))) (m_andE (m_notE (x_isi rfl rfl T.z_isinstance (ma_cons (mv 0) (ma_cons (y_bool rfl T.z_bool) ma_nil)))) (m_oneE (m_cm (cm_eq rfl hr) (mv 0) (mv 1) (nomark _)))))))))
theorem ok__law_same (T : Txt g mg) : Ok g P w mg base "_law_same" m__law_same 2 9 := ok__law_sameR T 8
theorem sc__law_arms_right : FnScope ["first_so", "lean", "unfit", "got", "door", "rows_so", "own"] ["first_so"] (defScope (top 72)) := ⟨rfl, rfl, rfl, by decide +kernel, rfl, by decide +kernel, by decide +kernel⟩
theorem ok__law_arms_right (T : Txt g mg) : Ok g P w mg base "_law_arms_right" m__law_arms_right 1 16 := ok_def (k := 15) T.d__law_arms_right sc__law_arms_right 1 6 rfl rfl fun f cdv A outer s H E hr => by
  exact (ms_cons (ms_asgA rfl rfl (m_tup (ma_cons (m_tup (ma_cons m_int (ma_cons m_int ma_nil))) (ma_cons (m_lst (ma_cons m_str (ma_cons m_bl ma_nil))) (ma_cons (m_lst ma_nil) ma_nil)))) (pgs_cons (pg_name (i := 1) sc__law_arms_right.nd rfl (by first | exact Or.inl rfl | exact Or.inr rfl)) (pgs_cons (pg_name (i := 2) sc__law_arms_right.nd rfl (by first | exact Or.inl rfl | exact Or.inr rfl)) (pgs_cons (pg_name (i := 3) sc__law_arms_right.nd rfl (by first | exact Or.inl rfl | exact Or.inr rfl)) pgs_nil))) (gs_cons (gs_name 1) (gs_cons (gs_name 2) (gs_cons (gs_name 3) gs_nil))))
      (ms_cons (ms_for (passes_of rfl) rfl (mi_any rfl (m_stepA rfl (m_listRg rfl rfl T.z_list rfl T.z_range m_int) (mo_some (mv 0)) mo_none (mo_some m_int))) (pg_name (i := 4) sc__law_arms_right.nd rfl (by first | exact Or.inl rfl | exact Or.inr rfl)) (gs_name 4) (ms_one (ms_set (i := 3) sc__law_arms_right.nd rfl (by first | exact Or.inl rfl | exact Or.inr rfl) (m_addA (mv 3) (m_lc (own := [("own", 6)]) rfl sc__law_arms_right.nd (mi_any rfl (m_cO0 (ok__law_bad_arms T) rfl (hr.mono (by first | decide | omega)) rfl (takes_of rfl rfl rfl rfl))) (blkOk_by (by kernel_rfl)) (fun _ _ _ _ _ => (pg_name (i := 6) sc__law_arms_right.nd rfl (by first | exact Or.inl rfl | exact Or.inr rfl))) (gs_name 6) (by decide) (fun _ _ _ _ _ => mts_nil) (fun _ _ _ _ _ => (m_cO (ok__law_heard T) rfl (hr.mono (by first | decide | omega)) rfl takes0 (ma_cons (mv 4) (ma_cons (mv 6) (ma_cons (m_ifE (mt_cm (cm_ne rfl hr) (mv 4) m_int (nomark _)) (m_tup (ma_cons m_int (ma_cons m_int ma_nil))) m_int) (ma_cons (m_ifE (mt_cm (cm_eq rfl hr) (mv 4) m_int (nomark _)) m_int (mv 1)) ma_nil)))))))))))
      (ms_cons (ms_for (passes_of rfl) rfl (mi_any rfl (m_stepA rfl (m_lst (ma_cons m_int (ma_cons m_int (ma_cons m_int (ma_cons m_int (ma_cons m_int (ma_cons m_int (ma_cons m_int ma_nil)))))))) (mo_some (mv 0)) mo_none (mo_some m_int))) (pg_name (i := 4) sc__law_arms_right.nd rfl (by first | exact Or.inl rfl | exact Or.inr rfl)) (gs_name 4) (ms_one (ms_set (i := 3) sc__law_arms_right.nd rfl (by first | exact Or.inl rfl | exact Or.inr rfl) (m_addA (mv 3) (m_lc (own := [("own", 6)]) rfl sc__law_arms_right.nd (mi_any rfl (m_cO0 (ok__law_bad_arms T) rfl (hr.mono (by first | decide | omega)) rfl (takes_of rfl rfl rfl rfl))) (blkOk_by (by kernel_rfl)) (fun _ _ _ _ _ => (pg_name (i := 6) sc__law_arms_right.nd rfl (by first | exact Or.inl rfl | exact Or.inr rfl))) (gs_name 6) (by decide) (fun _ _ _ _ _ => mts_nil) (fun _ _ _ _ _ => (m_cO (ok__law_heard T) rfl (hr.mono (by first | decide | omega)) rfl takes0 (ma_cons (mv 4) (ma_cons (mv 1) (ma_cons (mv 6) (ma_cons (m_ifE (mt_cm (cm_eq rfl hr) (mv 4) m_int (nomark _)) m_int (mv 1)) ma_nil)))))))))))
      (ms_cons (ms_set (i := 3) sc__law_arms_right.nd rfl (by first | exact Or.inl rfl | exact Or.inr rfl) (m_addA (m_addA (mv 3) (m_lc (own := [("own", 6)]) rfl sc__law_arms_right.nd (mi_any rfl (m_cO0 (ok__law_bad_arms T) rfl (hr.mono (by first | decide | omega)) rfl (takes_of rfl rfl rfl rfl))) (blkOk_by (by kernel_rfl)) (fun _ _ _ _ _ => (pg_name (i := 6) sc__law_arms_right.nd rfl (by first | exact Or.inl rfl | exact Or.inr rfl))) (gs_name 6) (by decide) (fun _ _ _ _ _ => mts_nil) (fun _ _ _ _ _ => (m_cO (ok__law_heard T) rfl (hr.mono (by first | decide | omega)) rfl takes0 (ma_cons m_int (ma_cons (mv 1) (ma_cons (m_tup (ma_cons m_int (ma_cons m_int ma_nil))) (ma_cons (mv 6) ma_nil)))))))) (m_lc (own := [("own", 6)]) rfl sc__law_arms_right.nd (mi_any rfl (m_cO0 (ok__law_bad_arms T) rfl (hr.mono (by first | decide | omega)) rfl (takes_of rfl rfl rfl rfl))) (blkOk_by (by kernel_rfl)) (fun _ _ _ _ _ => (pg_name (i := 6) sc__law_arms_right.nd rfl (by first | exact Or.inl rfl | exact Or.inr rfl))) (gs_name 6) (by decide) (fun _ _ _ _ _ => mts_nil) (fun _ _ _ _ _ => (m_cO (ok__law_heard T) rfl (hr.mono (by first | decide | omega)) rfl takes0 (ma_cons m_int (ma_cons (m_tup (ma_cons (mv 1) ma_nil)) (ma_cons (mv 6) (ma_cons m_non ma_nil)))))))))
      (ms_cons (ms_set (i := 5) sc__law_arms_right.nd rfl (by first | exact Or.inl rfl | exact Or.inr rfl) (m_lst (ma_cons m_non (ma_cons (m_tup ma_nil) (ma_cons m_int (ma_cons m_str (ma_cons (m_tup (ma_cons m_int (ma_cons m_int ma_nil))) (ma_cons (m_tup (ma_cons (m_tup (ma_cons m_int (ma_cons m_int ma_nil))) ma_nil)) (ma_cons (m_tup (ma_cons (mv 1) (ma_cons m_non ma_nil))) (ma_cons (m_tup (ma_cons (mv 1) (ma_cons (m_tup (ma_cons m_int (ma_cons m_int ma_nil))) ma_nil))) (ma_cons (m_tup (ma_cons (m_tup (ma_cons (mv 1) ma_nil)) ma_nil)) ma_nil)))))))))))
      (ms_cons (ms_for (passes_of rfl) rfl (mi_any rfl (m_tup (ma_cons m_int (ma_cons m_int ma_nil)))) (pg_name (i := 4) sc__law_arms_right.nd rfl (by first | exact Or.inl rfl | exact Or.inr rfl)) (gs_name 4) (ms_one (ms_set (i := 3) sc__law_arms_right.nd rfl (by first | exact Or.inl rfl | exact Or.inr rfl) (m_addA (mv 3) (m_lc (own := [("own", 6)]) rfl sc__law_arms_right.nd (mi_any rfl (mv 5)) (blkOk_by (by kernel_rfl)) (fun _ _ _ _ _ => (pg_name (i := 6) sc__law_arms_right.nd rfl (by first | exact Or.inl rfl | exact Or.inr rfl))) (gs_name 6) (by decide) (fun _ _ _ _ _ => mts_nil) (fun _ _ _ _ _ => (m_cO (ok__law_heard T) rfl (hr.mono (by first | decide | omega)) rfl takes0 (ma_cons (mv 4) (ma_cons (mv 6) (ma_cons (mv 1) (ma_cons m_non ma_nil)))))))))))
      (ms_cons (ms_set (i := 3) sc__law_arms_right.nd rfl (by first | exact Or.inl rfl | exact Or.inr rfl) (m_addA (mv 3) (m_lc (own := [("own", 6)]) rfl sc__law_arms_right.nd (mi_any rfl (mv 5)) (blkOk_by (by kernel_rfl)) (fun _ _ _ _ _ => (pg_name (i := 6) sc__law_arms_right.nd rfl (by first | exact Or.inl rfl | exact Or.inr rfl))) (gs_name 6) (by decide) (fun _ _ _ _ _ => mts_nil) (fun _ _ _ _ _ => (m_cO (ok__law_heard T) rfl (hr.mono (by first | decide | omega)) rfl takes0 (ma_cons m_int (ma_cons (mv 1) (ma_cons (m_tup (ma_cons m_int (ma_cons m_int ma_nil))) (ma_cons (mv 6) ma_nil)))))))))
      (ms_one (ms_ret (m_cO (ok__law_same T) rfl (hr.mono (by first | decide | omega)) rfl (takes_of rfl rfl rfl rfl) (ma_cons (mv 3) (ma_cons (m_mulC (m_lst (ma_cons (mv 2) ma_nil)) (x_len rfl rfl T.z_len (ma_cons (mv 3) ma_nil))) ma_nil))))))))))))
theorem sc__law_box : FnScope ["script", "k", "bit_so"] ["script", "k"] (defScope (top 65)) := ⟨rfl, rfl, rfl, by decide +kernel, rfl, by decide +kernel, by decide +kernel⟩
theorem ok__law_box (T : Txt g mg) : Ok g P w mg base "_law_box" m__law_box 2 1 := ok_def (k := 0) T.d__law_box sc__law_box 2 1 rfl rfl fun f cdv A outer s H E hr => by
  exact (ms_cons (ms_set (i := 2) sc__law_box.nd rfl (by first | exact Or.inl rfl | exact Or.inr rfl) (m_ifE (mt_cm (cm_lt rfl hr) (mv 1) (x_len rfl rfl T.z_len (ma_cons (mv 0) ma_nil)) (nomark _)) (m_ix rfl (mv 0) (mv 1)) m_int))
      (ms_one (ms_ret (m_lst (ma_cons (m_mulC (x_abs rfl rfl T.z_abs (ma_cons (mv 2) ma_nil)) (x_int rfl rfl T.z_int (ma_cons (m_cm (cm_ge rfl hr) (x_abs rfl rfl T.z_abs (ma_cons (mv 2) ma_nil)) (m_pow m_int m_int) (nomark _)) ma_nil))) (ma_cons (m_addA (m_addA (m_mod (x_int rfl rfl T.z_int (ma_cons (mv 2) ma_nil)) m_int) (m_mulC m_int (mv 1))) m_int) (ma_cons m_int ma_nil)))))))
theorem sc__law_cells : FnScope ["script", "most_so", "cells_so", "k", "bit_so", "at_so"] ["script", "most_so"] (defScope (top 67)) := ⟨rfl, rfl, rfl, by decide +kernel, rfl, by decide +kernel, by decide +kernel⟩
theorem ok__law_cells (T : Txt g mg) : Ok g P w mg base "_law_cells" m__law_cells 2 1 := ok_def (k := 0) T.d__law_cells sc__law_cells 2 4 rfl rfl fun f cdv A outer s H E hr => by
  exact (ms_cons (ms_set (i := 2) sc__law_cells.nd rfl (by first | exact Or.inl rfl | exact Or.inr rfl) (m_orT rfl (x_list rfl rfl T.z_list (ma_cons (m_sl rfl (mv 0) mo_none (mo_some (mv 1))) ma_nil)) (m_oneE (m_lst (ma_cons m_int ma_nil)))))
      (ms_cons (ms_for (passes_of rfl) rfl (mi_enum rfl rfl T.z_enumerate (ma_cons (m_sl rfl (mv 0) (mo_some (mv 1)) (mo_some m_int)) ma_nil)) (pg_tup rfl (pgs_cons (pg_name (i := 3) sc__law_cells.nd rfl (by first | exact Or.inl rfl | exact Or.inr rfl)) (pgs_cons (pg_name (i := 4) sc__law_cells.nd rfl (by first | exact Or.inl rfl | exact Or.inr rfl)) pgs_nil))) (gs_tup (gs_cons (gs_name 3) (gs_cons (gs_name 4) gs_nil))) (ms_cons (ms_set (i := 5) sc__law_cells.nd rfl (by first | exact Or.inl rfl | exact Or.inr rfl) (m_mod (x_int rfl rfl T.z_int (ma_cons (mv 3) ma_nil)) (mv 1)))
      (ms_one (ms_setIx (m_addA (m_ix rfl (mv 2) (mv 5)) (m_mulC (mv 4) (m_addA (mv 3) m_int))) (mv 2) (mv 5)))))
      (ms_one (ms_ret (mv 2)))))
theorem sc__law_rest_right : FnScope ["lean", "unfit", "none_so", "got", "rod", "bad_so", "rods", "own", "door"] ([] : List Str) (defScope (top 73)) := ⟨rfl, rfl, rfl, by decide +kernel, rfl, by decide +kernel, by decide +kernel⟩
theorem ok__law_rest_right (T : Txt g mg) : Ok g P w mg base "_law_rest_right" m__law_rest_right 0 16 := ok_def (k := 15) T.d__law_rest_right sc__law_rest_right 0 9 rfl rfl fun f cdv A outer s H E hr => by
  exact (ms_cons (ms_asgA rfl rfl (m_tup (ma_cons (m_tup (ma_cons m_int (ma_cons m_int ma_nil))) (ma_cons (m_lst (ma_cons m_str (ma_cons m_bl ma_nil))) (ma_cons (m_lst (ma_cons m_str (ma_cons m_bl ma_nil))) ma_nil)))) (pgs_cons (pg_name (i := 0) sc__law_rest_right.nd rfl (by first | exact Or.inl rfl | exact Or.inr rfl)) (pgs_cons (pg_name (i := 1) sc__law_rest_right.nd rfl (by first | exact Or.inl rfl | exact Or.inr rfl)) (pgs_cons (pg_name (i := 2) sc__law_rest_right.nd rfl (by first | exact Or.inl rfl | exact Or.inr rfl)) pgs_nil))) (gs_cons (gs_name 0) (gs_cons (gs_name 1) (gs_cons (gs_name 2) gs_nil))))
      (ms_cons (ms_set (i := 3) sc__law_rest_right.nd rfl (by first | exact Or.inl rfl | exact Or.inr rfl) (m_addA (m_lc (own := [("own", 7)]) rfl sc__law_rest_right.nd (mi_any rfl (m_tup (ma_cons (m_neg m_int) (ma_cons m_non (ma_cons m_bl (ma_cons m_str (ma_cons (m_tup (ma_cons m_int ma_nil)) ma_nil))))))) (blkOk_by (by kernel_rfl)) (fun _ _ _ _ _ => (pg_name (i := 7) sc__law_rest_right.nd rfl (by first | exact Or.inl rfl | exact Or.inr rfl))) (gs_name 7) (by decide) (fun _ _ _ _ _ => mts_nil) (fun _ _ _ _ _ => (m_cO (ok__law_heard T) rfl (hr.mono (by first | decide | omega)) rfl takes0 (ma_cons m_int (ma_cons (mv 0) (ma_cons (mv 7) (ma_cons m_non ma_nil))))))) (m_lc (own := [("own", 7)]) rfl sc__law_rest_right.nd (mi_any rfl (m_tup (ma_cons (m_neg m_int) (ma_cons m_non (ma_cons m_bl (ma_cons m_str ma_nil)))))) (blkOk_by (by kernel_rfl)) (fun _ _ _ _ _ => (pg_name (i := 7) sc__law_rest_right.nd rfl (by first | exact Or.inl rfl | exact Or.inr rfl))) (gs_name 7) (by decide) (fun _ _ _ _ _ => mts_nil) (fun _ _ _ _ _ => (m_cO (ok__law_heard T) rfl (hr.mono (by first | decide | omega)) rfl takes0 (ma_cons m_int (ma_cons (m_tup (ma_cons m_int (ma_cons m_int ma_nil))) (ma_cons (mv 0) (ma_cons (mv 7) ma_nil)))))))))
      (ms_cons (ms_asgA rfl rfl (m_tup (ma_cons (m_tup (ma_cons (m_tup (ma_cons m_int (ma_cons m_int ma_nil))) (ma_cons (m_tup (ma_cons m_int (ma_cons m_int ma_nil))) ma_nil))) (ma_cons (m_lst (ma_cons m_non (ma_cons (m_tup ma_nil) (ma_cons (m_tup (ma_cons (m_tup (ma_cons m_int (ma_cons m_int ma_nil))) ma_nil)) (ma_cons (m_tup (ma_cons (m_tup (ma_cons m_int (ma_cons m_int ma_nil))) (ma_cons (m_tup (ma_cons m_int (ma_cons m_int ma_nil))) ma_nil))) (ma_cons (m_tup (ma_cons (m_tup (ma_cons m_int (ma_cons m_int ma_nil))) (ma_cons (m_tup (ma_cons m_int (ma_cons m_int ma_nil))) ma_nil))) (ma_cons (m_tup (ma_cons (m_tup (ma_cons m_int (ma_cons m_int ma_nil))) (ma_cons (m_tup (ma_cons m_int (ma_cons m_int ma_nil))) ma_nil))) (ma_cons (m_tup (ma_cons m_int (ma_cons m_int (ma_cons m_int (ma_cons m_int ma_nil))))) (ma_cons (m_tup (ma_cons (m_tup (ma_cons m_int (ma_cons m_int ma_nil))) (ma_cons (m_tup (ma_cons m_int (ma_cons m_bl ma_nil))) ma_nil))) (ma_cons m_str ma_nil)))))))))) ma_nil))) (pgs_cons (pg_name (i := 4) sc__law_rest_right.nd rfl (by first | exact Or.inl rfl | exact Or.inr rfl)) (pgs_cons (pg_name (i := 5) sc__law_rest_right.nd rfl (by first | exact Or.inl rfl | exact Or.inr rfl)) pgs_nil)) (gs_cons (gs_name 4) (gs_cons (gs_name 5) gs_nil)))
      (ms_cons (ms_set (i := 3) sc__law_rest_right.nd rfl (by first | exact Or.inl rfl | exact Or.inr rfl) (m_addA (m_addA (mv 3) (m_lc (own := [("own", 7)]) rfl sc__law_rest_right.nd (mi_any rfl (mv 5)) (blkOk_by (by kernel_rfl)) (fun _ _ _ _ _ => (pg_name (i := 7) sc__law_rest_right.nd rfl (by first | exact Or.inl rfl | exact Or.inr rfl))) (gs_name 7) (by decide) (fun _ _ _ _ _ => mts_nil) (fun _ _ _ _ _ => (m_cO (ok__law_heard T) rfl (hr.mono (by first | decide | omega)) rfl takes0 (ma_cons m_int (ma_cons (mv 7) (ma_cons (mv 4) (ma_cons m_non ma_nil)))))))) (m_lc (own := [("own", 7)]) rfl sc__law_rest_right.nd (mi_any rfl (mv 5)) (blkOk_by (by kernel_rfl)) (fun _ _ _ _ _ => (pg_name (i := 7) sc__law_rest_right.nd rfl (by first | exact Or.inl rfl | exact Or.inr rfl))) (gs_name 7) (by decide) (fun _ _ _ _ _ => mts_nil) (fun _ _ _ _ _ => (m_cO (ok__law_heard T) rfl (hr.mono (by first | decide | omega)) rfl takes0 (ma_cons m_int (ma_cons (mv 4) (ma_cons (mv 7) (ma_cons m_non ma_nil)))))))))
      (ms_cons (ms_set (i := 3) sc__law_rest_right.nd rfl (by first | exact Or.inl rfl | exact Or.inr rfl) (m_addA (mv 3) (m_lst (ma_cons (m_cO (ok__law_heard T) rfl (hr.mono (by first | decide | omega)) rfl (takes_of rfl rfl rfl rfl) (ma_cons m_int (ma_cons (mv 0) (ma_cons (m_tup (ma_cons m_int (ma_cons m_int ma_nil))) (ma_cons (m_neg m_int) ma_nil))))) (ma_cons (m_cO (ok__law_heard T) rfl (hr.mono (by first | decide | omega)) rfl (takes_of rfl rfl rfl rfl) (ma_cons m_int (ma_cons (mv 0) (ma_cons (m_tup (ma_cons m_int (ma_cons m_int ma_nil))) (ma_cons (m_tup (ma_cons m_int (ma_cons m_int ma_nil))) ma_nil))))) (ma_cons (m_cO (ok__law_heard T) rfl (hr.mono (by first | decide | omega)) rfl (takes_of rfl rfl rfl rfl) (ma_cons m_int (ma_cons (mv 0) (ma_cons (m_tup (ma_cons m_int (ma_cons m_int ma_nil))) (ma_cons (m_tup ma_nil) ma_nil))))) ma_nil))))))
      (ms_cons (ms_if (mt_not (mt_val (m_cO (ok__law_same T) rfl (hr.mono (by first | decide | omega)) rfl (takes_of rfl rfl rfl rfl) (ma_cons (mv 3) (ma_cons (m_mulC (m_lst (ma_cons (mv 1) ma_nil)) (x_len rfl rfl T.z_len (ma_cons (mv 3) ma_nil))) ma_nil))))) (ms_one (ms_ret m_bl)) ms_nil)
      (ms_cons (ms_set (i := 3) sc__law_rest_right.nd rfl (by first | exact Or.inl rfl | exact Or.inr rfl) (m_addA (m_lc (own := [("door", 8)]) rfl sc__law_rest_right.nd (mi_any rfl (m_tup (ma_cons m_int (ma_cons m_int (ma_cons m_int (ma_cons m_int ma_nil)))))) (blkOk_by (by kernel_rfl)) (fun _ _ _ _ _ => (pg_name (i := 8) sc__law_rest_right.nd rfl (by first | exact Or.inl rfl | exact Or.inr rfl))) (gs_name 8) (by decide) (fun _ _ _ _ _ => mts_nil) (fun _ _ _ _ _ => (m_cO (ok__law_heard T) rfl (hr.mono (by first | decide | omega)) rfl takes0 (ma_cons (mv 8) (ma_cons (mv 0) (ma_cons (m_tup (ma_cons m_int (ma_cons m_int ma_nil))) (ma_cons m_int ma_nil))))))) (m_lc (own := [("own", 7)]) rfl sc__law_rest_right.nd (mi_any rfl (m_tup (ma_cons (m_tup (ma_cons m_int (ma_cons m_int ma_nil))) (ma_cons (mv 0) (ma_cons (m_tup (ma_cons m_int (ma_cons m_int ma_nil))) ma_nil))))) (blkOk_by (by kernel_rfl)) (fun _ _ _ _ _ => (pg_name (i := 7) sc__law_rest_right.nd rfl (by first | exact Or.inl rfl | exact Or.inr rfl))) (gs_name 7) (by decide) (fun _ _ _ _ _ => mts_nil) (fun _ _ _ _ _ => (m_cO (ok__law_heard T) rfl (hr.mono (by first | decide | omega)) rfl takes0 (ma_cons m_int (ma_cons (mv 0) (ma_cons (mv 7) (ma_cons m_non ma_nil)))))))))
      (ms_cons (ms_set (i := 3) sc__law_rest_right.nd rfl (by first | exact Or.inl rfl | exact Or.inr rfl) (m_addA (m_addA (mv 3) (m_lc (own := [("own", 7)]) rfl sc__law_rest_right.nd (mi_any rfl (m_tup (ma_cons m_int (ma_cons (m_pow m_int m_int) ma_nil)))) (blkOk_by (by kernel_rfl)) (fun _ _ _ _ _ => (pg_name (i := 7) sc__law_rest_right.nd rfl (by first | exact Or.inl rfl | exact Or.inr rfl))) (gs_name 7) (by decide) (fun _ _ _ _ _ => mts_nil) (fun _ _ _ _ _ => (m_cO (ok__law_heard T) rfl (hr.mono (by first | decide | omega)) rfl takes0 (ma_cons m_int (ma_cons (m_tup (ma_cons m_int (ma_cons m_int ma_nil))) (ma_cons (m_tup (ma_cons m_int (ma_cons (m_neg m_int) ma_nil))) (ma_cons (mv 7) ma_nil)))))))) (m_lst (ma_cons (m_cO (ok__law_heard T) rfl (hr.mono (by first | decide | omega)) rfl (takes_of rfl rfl rfl rfl) (ma_cons m_int (ma_cons (mv 0) (ma_cons (m_tup (ma_cons m_int (ma_cons m_int ma_nil))) (ma_cons (mv 0) ma_nil))))) (ma_cons (m_cO (ok__law_heard T) rfl (hr.mono (by first | decide | omega)) rfl (takes_of rfl rfl rfl rfl) (ma_cons m_int (ma_cons (mv 0) (ma_cons (m_tup (ma_cons m_int (ma_cons m_int ma_nil))) (ma_cons (m_tup (ma_cons m_int (ma_cons m_int ma_nil))) ma_nil))))) ma_nil)))))
      (ms_cons (ms_set (i := 3) sc__law_rest_right.nd rfl (by first | exact Or.inl rfl | exact Or.inr rfl) (m_addA (mv 3) (m_lst (ma_cons (m_cO (ok__law_heard T) rfl (hr.mono (by first | decide | omega)) rfl (takes_of rfl rfl rfl rfl) (ma_cons m_int (ma_cons (mv 0) (ma_cons (mv 0) (ma_cons (m_tup (ma_cons (mv 0) ma_nil)) ma_nil))))) (ma_cons (m_cO (ok__law_heard T) rfl (hr.mono (by first | decide | omega)) rfl (takes_of rfl rfl rfl rfl) (ma_cons m_int (ma_cons (mv 0) (ma_cons (m_tup (ma_cons m_int (ma_cons m_int ma_nil))) (ma_cons (m_tup (ma_cons (mv 0) (ma_cons (m_tup (ma_cons m_int (ma_cons m_int ma_nil))) ma_nil))) ma_nil))))) (ma_cons (m_cO (ok__law_heard T) rfl (hr.mono (by first | decide | omega)) rfl (takes_of rfl rfl rfl rfl) (ma_cons m_int (ma_cons (m_tup (ma_cons (mv 0) (ma_cons (m_tup (ma_cons m_int (ma_cons m_int ma_nil))) ma_nil))) (ma_cons m_non (ma_cons m_non ma_nil))))) ma_nil))))))
      (ms_cons (ms_set (i := 3) sc__law_rest_right.nd rfl (by first | exact Or.inl rfl | exact Or.inr rfl) (m_addA (mv 3) (m_lst (ma_cons (m_cO (ok__law_heard T) rfl (hr.mono (by first | decide | omega)) rfl (takes_of rfl rfl rfl rfl) (ma_cons m_int (ma_cons (m_tup (ma_cons (mv 0) (ma_cons (mv 0) (ma_cons (m_tup (ma_cons m_int (ma_cons m_int ma_nil))) ma_nil)))) (ma_cons m_non (ma_cons m_non ma_nil))))) (ma_cons (m_cO (ok__law_heard T) rfl (hr.mono (by first | decide | omega)) rfl (takes_of rfl rfl rfl rfl) (ma_cons m_int (ma_cons (m_tup (ma_cons (mv 0) (ma_cons (m_tup (ma_cons m_int (ma_cons m_int ma_nil))) ma_nil))) (ma_cons (mv 0) (ma_cons m_non ma_nil))))) (ma_cons (m_cO (ok__law_heard T) rfl (hr.mono (by first | decide | omega)) rfl (takes_of rfl rfl rfl rfl) (ma_cons m_int (ma_cons (m_tup (ma_cons (mv 0) ma_nil)) (ma_cons (m_tup (ma_cons m_int (ma_cons m_int ma_nil))) (ma_cons m_non ma_nil))))) ma_nil))))))
      (ms_cons (ms_set (i := 6) sc__law_rest_right.nd rfl (by first | exact Or.inl rfl | exact Or.inr rfl) (m_lst (ma_cons (m_tup (ma_cons (m_tup (ma_cons m_int (ma_cons m_int ma_nil))) (ma_cons (m_tup (ma_cons m_int (ma_cons m_int ma_nil))) ma_nil))) (ma_cons (m_tup (ma_cons (m_tup (ma_cons m_int (ma_cons m_int ma_nil))) (ma_cons (m_tup (ma_cons m_int (ma_cons m_int ma_nil))) ma_nil))) (ma_cons (m_tup (ma_cons (m_tup (ma_cons m_int (ma_cons m_int ma_nil))) (ma_cons (m_tup (ma_cons m_int (ma_cons m_int ma_nil))) ma_nil))) (ma_cons (mv 4) (ma_cons (m_tup (ma_cons (m_tup (ma_cons m_int (ma_cons m_int ma_nil))) (ma_cons (m_tup (ma_cons m_int (ma_cons m_int ma_nil))) ma_nil))) (ma_cons (m_tup (ma_cons (m_tup (ma_cons m_int (ma_cons m_int ma_nil))) (ma_cons (m_tup (ma_cons m_int (ma_cons m_int ma_nil))) ma_nil))) ma_nil))))))))
      (ms_cons (ms_set (i := 3) sc__law_rest_right.nd rfl (by first | exact Or.inl rfl | exact Or.inr rfl) (m_addA (mv 3) (m_lc (own := [("own", 7)]) rfl sc__law_rest_right.nd (mi_any rfl (mv 6)) (blkOk_by (by kernel_rfl)) (fun _ _ _ _ _ => (pg_name (i := 7) sc__law_rest_right.nd rfl (by first | exact Or.inl rfl | exact Or.inr rfl))) (gs_name 7) (by decide) (fun _ _ _ _ _ => mts_nil) (fun _ _ _ _ _ => (m_cO (ok__law_heard T) rfl (hr.mono (by first | decide | omega)) rfl takes0 (ma_cons m_int (ma_cons (mv 4) (ma_cons (mv 7) (ma_cons m_non ma_nil)))))))))
      (ms_cons (ms_if (mt_not (mt_val (m_cO (ok__law_same T) rfl (hr.mono (by first | decide | omega)) rfl (takes_of rfl rfl rfl rfl) (ma_cons (mv 3) (ma_cons (m_mulC (m_lst (ma_cons (mv 2) ma_nil)) (x_len rfl rfl T.z_len (ma_cons (mv 3) ma_nil))) ma_nil))))) (ms_one (ms_ret m_bl)) ms_nil)
      (ms_one (ms_ret (m_cO (ok__law_same T) rfl (hr.mono (by first | decide | omega)) rfl (takes_of rfl rfl rfl rfl) (ma_cons (m_addA (m_lc (own := [("own", 7)]) rfl sc__law_rest_right.nd (mi_any rfl (m_tup (ma_cons m_int (ma_cons (m_pow m_int m_int) ma_nil)))) (blkOk_by (by kernel_rfl)) (fun _ _ _ _ _ => (pg_name (i := 7) sc__law_rest_right.nd rfl (by first | exact Or.inl rfl | exact Or.inr rfl))) (gs_name 7) (by decide) (fun _ _ _ _ _ => mts_nil) (fun _ _ _ _ _ => (m_cO (ok__law_heard T) rfl (hr.mono (by first | decide | omega)) rfl takes0 (ma_cons m_int (ma_cons (mv 0) (ma_cons (mv 7) (ma_cons m_non ma_nil))))))) (m_lst (ma_cons (m_cO (ok__law_heard T) rfl (hr.mono (by first | decide | omega)) rfl (takes_of rfl rfl rfl rfl) (ma_cons m_int (ma_cons (m_tup (ma_cons (m_pow m_int m_int) (ma_cons m_int ma_nil))) (ma_cons (m_tup (ma_cons m_int (ma_cons m_int ma_nil))) (ma_cons m_non ma_nil))))) ma_nil))) (ma_cons (m_mulC (m_lst (ma_cons (m_lst (ma_cons m_str (ma_cons m_bl ma_nil))) ma_nil)) m_int) ma_nil))))))))))))))))))
theorem sc__law_take : FnScope ["tin", "below_so", "drawn", "once_so", "wide_so", "twice_so"] ["tin", "below_so"] (defScope (top 66)) := ⟨rfl, rfl, rfl, by decide +kernel, rfl, by decide +kernel, by decide +kernel⟩
theorem ok__law_take (T : Txt g mg) : Ok g P w mg base "_law_take" m__law_take 2 1 := ok_def (k := 0) T.d__law_take sc__law_take 2 4 rfl rfl fun f cdv A outer s H E hr => by
  exact (ms_cons (ms_if (mt_cm (cm_gt rfl hr) (m_ix rfl (mv 0) m_int) m_int (nomark _)) (ms_cons (ms_set (i := 2) sc__law_take.nd rfl (by first | exact Or.inl rfl | exact Or.inr rfl) (m_mod (x_int rfl rfl T.z_int (ma_cons (m_ix rfl (mv 0) m_int) ma_nil)) (mv 1)))
      (ms_cons (ms_setIx (m_divB (m_ix rfl (mv 0) m_int) (mv 1)) (mv 0) m_int)
      (ms_one (ms_ret (mv 2))))) ms_nil)
      (ms_cons (ms_setIx (m_addA (m_ix rfl (mv 0) m_int) m_int) (mv 0) m_int)
      (ms_cons (ms_set (i := 3) sc__law_take.nd rfl (by first | exact Or.inl rfl | exact Or.inr rfl) (m_mod (x_int rfl rfl T.z_int (ma_cons (m_mulC (m_addA (m_ix rfl (mv 0) m_int) (m_mulC m_int (m_ix rfl (mv 0) m_int))) (m_addA m_int (m_ix rfl (mv 0) m_int))) ma_nil)) m_int))
      (ms_cons (ms_set (i := 4) sc__law_take.nd rfl (by first | exact Or.inl rfl | exact Or.inr rfl) (m_addA (m_mod (x_int rfl rfl T.z_int (ma_cons (mv 3) ma_nil)) m_int) m_int))
      (ms_cons (ms_set (i := 5) sc__law_take.nd rfl (by first | exact Or.inl rfl | exact Or.inr rfl) (m_mod (x_int rfl rfl T.z_int (ma_cons (m_mulC (m_addA (m_addA (mv 3) (m_ix rfl (mv 0) m_int)) (m_divB (m_ix rfl (mv 0) m_int) m_int)) (mv 4)) ma_nil)) m_int))
      (ms_one (ms_ret (m_mod (x_int rfl rfl T.z_int (ma_cons (m_divB (m_mod (x_int rfl rfl T.z_int (ma_cons (m_addA (m_mulC (mv 5) m_int) (mv 3)) ma_nil)) m_int) m_int) ma_nil)) (mv 1)))))))))
theorem sc__law_values_right : FnScope ["lean", "far_so", "got", "due", "door"] ([] : List Str) (defScope (top 74)) := ⟨rfl, rfl, rfl, by decide +kernel, rfl, by decide +kernel, by decide +kernel⟩
theorem ok__law_values_right (T : Txt g mg) : Ok g P w mg base "_law_values_right" m__law_values_right 0 16 := ok_def (k := 15) T.d__law_values_right sc__law_values_right 0 5 rfl rfl fun f cdv A outer s H E hr => by
  exact (ms_cons (ms_asgA rfl rfl (m_tup (ma_cons (m_lst (ma_cons m_int (ma_cons m_int ma_nil))) (ma_cons (m_lst (ma_cons m_int (ma_cons m_int ma_nil))) ma_nil))) (pgs_cons (pg_name (i := 0) sc__law_values_right.nd rfl (by first | exact Or.inl rfl | exact Or.inr rfl)) (pgs_cons (pg_name (i := 1) sc__law_values_right.nd rfl (by first | exact Or.inl rfl | exact Or.inr rfl)) pgs_nil)) (gs_cons (gs_name 0) (gs_cons (gs_name 1) gs_nil)))
      (ms_cons (ms_set (i := 2) sc__law_values_right.nd rfl (by first | exact Or.inl rfl | exact Or.inr rfl) (m_addA (m_lc (own := [("door", 4)]) rfl sc__law_values_right.nd (mi_any rfl (m_tup (ma_cons m_int (ma_cons m_int (ma_cons m_int (ma_cons m_int (ma_cons m_int (ma_cons m_int ma_nil)))))))) (blkOk_by (by kernel_rfl)) (fun _ _ _ _ _ => (pg_name (i := 4) sc__law_values_right.nd rfl (by first | exact Or.inl rfl | exact Or.inr rfl))) (gs_name 4) (by decide) (fun _ _ _ _ _ => mts_nil) (fun _ _ _ _ _ => (m_cO (ok__law_heard T) rfl (hr.mono (by first | decide | omega)) rfl takes0 (ma_cons (mv 4) (ma_cons (mv 1) (ma_cons (mv 0) (ma_cons m_non ma_nil))))))) (m_lst (ma_cons (m_cO (ok__law_heard T) rfl (hr.mono (by first | decide | omega)) rfl (takes_of rfl rfl rfl rfl) (ma_cons m_int (ma_cons (mv 1) (ma_cons (m_lst (ma_cons m_int (ma_cons m_int ma_nil))) (ma_cons m_non ma_nil))))) (ma_cons (m_cO (ok__law_heard T) rfl (hr.mono (by first | decide | omega)) rfl (takes_of rfl rfl rfl rfl) (ma_cons m_int (ma_cons (mv 0) (ma_cons m_int (ma_cons m_non ma_nil))))) ma_nil)))))
      (ms_cons (ms_set (i := 3) sc__law_values_right.nd rfl (by first | exact Or.inl rfl | exact Or.inr rfl) (m_lst (ma_cons (m_tup (ma_cons m_int (ma_cons m_int ma_nil))) (ma_cons (m_tup (ma_cons m_int (ma_cons m_int ma_nil))) (ma_cons m_int (ma_cons m_bl (ma_cons (m_tup (ma_cons (m_tup (ma_cons m_int (ma_cons m_int ma_nil))) (ma_cons (m_tup (ma_cons m_int (ma_cons m_int ma_nil))) (ma_cons (m_tup (ma_cons m_int (ma_cons m_int ma_nil))) ma_nil)))) (ma_cons m_int (ma_cons (m_tup (ma_cons (m_tup (ma_cons m_int (ma_cons m_int ma_nil))) (ma_cons (m_tup (ma_cons m_int (ma_cons m_int ma_nil))) ma_nil))) (ma_cons (m_lst (ma_cons (m_tup (ma_cons m_int (ma_cons (m_neg m_int) ma_nil))) (ma_cons (m_tup (ma_cons m_int (ma_cons m_int ma_nil))) ma_nil))) ma_nil))))))))))
      (ms_cons (ms_set (i := 2) sc__law_values_right.nd rfl (by first | exact Or.inl rfl | exact Or.inr rfl) (m_addA (mv 2) (m_lst (ma_cons (m_cO (ok__law_heard T) rfl (hr.mono (by first | decide | omega)) rfl (takes_of rfl rfl rfl rfl) (ma_cons m_int (ma_cons (mv 1) (ma_cons (mv 0) (ma_cons m_int ma_nil))))) (ma_cons (m_cO (ok__law_heard T) rfl (hr.mono (by first | decide | omega)) rfl (takes_of rfl rfl rfl rfl) (ma_cons m_int (ma_cons (mv 1) (ma_cons (m_lst (ma_cons m_int (ma_cons m_int ma_nil))) (ma_cons (mv 0) ma_nil))))) (ma_cons (m_cO (ok__law_heard T) rfl (hr.mono (by first | decide | omega)) rfl (takes_of rfl rfl rfl rfl) (ma_cons m_int (ma_cons (m_lst (ma_cons m_int (ma_cons m_int ma_nil))) (ma_cons (mv 1) (ma_cons (m_lst (ma_cons (mv 0) (ma_cons (mv 1) ma_nil))) ma_nil))))) (ma_cons (m_cO (ok__law_heard T) rfl (hr.mono (by first | decide | omega)) rfl (takes_of rfl rfl rfl rfl) (ma_cons m_int (ma_cons (m_lst (ma_cons (mv 1) ma_nil)) (ma_cons m_non (ma_cons m_non ma_nil))))) ma_nil)))))))
      (ms_cons (ms_set (i := 3) sc__law_values_right.nd rfl (by first | exact Or.inl rfl | exact Or.inr rfl) (m_addA (mv 3) (m_lst (ma_cons (m_tup (ma_cons m_int (ma_cons m_int ma_nil))) (ma_cons m_bl (ma_cons m_int (ma_cons (m_tup (ma_cons m_int (ma_cons m_int ma_nil))) ma_nil)))))))
      (ms_cons (ms_set (i := 2) sc__law_values_right.nd rfl (by first | exact Or.inl rfl | exact Or.inr rfl) (m_addA (mv 2) (m_lst (ma_cons (m_cO (ok__law_heard T) rfl (hr.mono (by first | decide | omega)) rfl (takes_of rfl rfl rfl rfl) (ma_cons m_int (ma_cons (m_lst (ma_cons (mv 1) (ma_cons (mv 0) ma_nil))) (ma_cons (mv 0) (ma_cons m_non ma_nil))))) (ma_cons (m_cO (ok__law_heard T) rfl (hr.mono (by first | decide | omega)) rfl (takes_of rfl rfl rfl rfl) (ma_cons m_int (ma_cons (m_lst (ma_cons (m_lst (ma_cons m_int (ma_cons m_int ma_nil))) (ma_cons (m_lst (ma_cons m_int (ma_cons m_int ma_nil))) ma_nil))) (ma_cons (m_lst (ma_cons (m_lst (ma_cons m_int (ma_cons m_int ma_nil))) (ma_cons (m_lst (ma_cons m_int (ma_cons m_int ma_nil))) ma_nil))) (ma_cons m_non ma_nil))))) (ma_cons (x_len rfl rfl T.z_len (ma_cons (m_cO (ok__law_heard T) rfl (hr.mono (by first | decide | omega)) rfl (takes_of rfl rfl rfl rfl) (ma_cons m_int (ma_cons (mv 0) (ma_cons m_int (ma_cons m_non ma_nil))))) ma_nil)) (ma_cons (x_len rfl rfl T.z_len (ma_cons (m_cO (ok__law_heard T) rfl (hr.mono (by first | decide | omega)) rfl (takes_of rfl rfl rfl rfl) (ma_cons m_int (ma_cons (mv 0) (ma_cons m_int (ma_cons m_non ma_nil))))) ma_nil)) ma_nil)))))))
      (ms_one (ms_ret (m_cO (ok__law_same T) rfl (hr.mono (by first | decide | omega)) rfl (takes_of rfl rfl rfl rfl) (ma_cons (mv 2) (ma_cons (m_addA (mv 3) (m_lst (ma_cons m_int (ma_cons (m_tup (ma_cons (m_tup (ma_cons (m_tup (ma_cons m_int (ma_cons m_int ma_nil))) (ma_cons (m_tup (ma_cons m_int (ma_cons (m_neg m_int) ma_nil))) ma_nil))) (ma_cons (m_tup (ma_cons (m_tup (ma_cons m_int (ma_cons (m_neg m_int) ma_nil))) (ma_cons (m_tup (ma_cons m_int (ma_cons m_int ma_nil))) ma_nil))) ma_nil))) (ma_cons m_int (ma_cons m_int ma_nil)))))) ma_nil)))))))))))
theorem sc_law : FnScope ["script", "first_so"] ["script"] (defScope (top 75)) := ⟨rfl, rfl, rfl, by decide +kernel, rfl, by decide +kernel, by decide +kernel⟩
theorem okF_law (T : Txt g mg) {f : Addr} {fd : FuncData} (F : L2.Fun g.K "law" "law" (top 75) f fd) : FnOk P w g.K mg base (L2.CX P w) 17 f fd ["script"] (spM g m_law 1) := fun_ok (k := 16) F sc_law 1 1 rfl rfl fun cdv A outer s H E hr => by
  exact (ms_cons (ms_set (i := 1) sc_law.nd rfl (by first | exact Or.inl rfl | exact Or.inr rfl) (m_cO (ok__law_take T) rfl (hr.mono (by first | decide | omega)) rfl (takes_of rfl rfl rfl rfl) (ma_cons (m_cO (ok__law_box T) rfl (hr.mono (by first | decide | omega)) rfl (takes_of rfl rfl rfl rfl) (ma_cons (m_cO (ok__law_cells T) rfl (hr.mono (by first | decide | omega)) rfl (takes_of rfl rfl rfl rfl) (ma_cons (mv 0) (ma_cons m_int ma_nil))) (ma_cons m_int ma_nil))) (ma_cons m_int ma_nil))))
      (ms_one (ms_ret (m_andE (m_cO0 (ok__law_values_right T).iso rfl (hr.mono (by first | decide | omega)) rfl (takes_of rfl rfl rfl rfl)) (m_andE (m_cO0 (ok__law_rest_right T).iso rfl (hr.mono (by first | decide | omega)) rfl (takes_of rfl rfl rfl rfl)) (m_oneE (m_cO (ok__law_arms_right T).iso rfl (hr.mono (by first | decide | omega)) rfl (takes_of rfl rfl rfl rfl) (ma_cons (mv 1) ma_nil))))))))
theorem ok_law (T : Txt g mg) : Ok g P w mg base "law" m_law 1 17 := ok_def (k := 16) T.d_law sc_law 1 1 rfl rfl fun f cdv A outer s H E hr => by
  exact (ms_cons (ms_set (i := 1) sc_law.nd rfl (by first | exact Or.inl rfl | exact Or.inr rfl) (m_cO (ok__law_take T) rfl (hr.mono (by first | decide | omega)) rfl (takes_of rfl rfl rfl rfl) (ma_cons (m_cO (ok__law_box T) rfl (hr.mono (by first | decide | omega)) rfl (takes_of rfl rfl rfl rfl) (ma_cons (m_cO (ok__law_cells T) rfl (hr.mono (by first | decide | omega)) rfl (takes_of rfl rfl rfl rfl) (ma_cons (mv 0) (ma_cons m_int ma_nil))) (ma_cons m_int ma_nil))) (ma_cons m_int ma_nil))))
      (ms_one (ms_ret (m_andE (m_cO0 (ok__law_values_right T).iso rfl (hr.mono (by first | decide | omega)) rfl (takes_of rfl rfl rfl rfl)) (m_andE (m_cO0 (ok__law_rest_right T).iso rfl (hr.mono (by first | decide | omega)) rfl (takes_of rfl rfl rfl rfl)) (m_oneE (m_cO (ok__law_arms_right T).iso rfl (hr.mono (by first | decide | omega)) rfl (takes_of rfl rfl rfl rfl) (ma_cons (mv 1) ma_nil))))))))
end
end M.K13

set_option Elab.async false
set_option linter.all false
set_option maxRecDepth 1000000
set_option maxHeartbeats 0
namespace M.K13
open PySem PySem.Spec PyProof.Rows L2
theorem gv : isT (m__law_values_right [] ⟨0, []⟩) = true := by decide +kernel
theorem gr : isT (m__law_rest_right [] ⟨0, []⟩) = true := by decide +kernel
theorem ga0 : isT (m__law_arms_right [.int 0] ⟨0, []⟩) = true := by decide +kernel
theorem ga1 : isT (m__law_arms_right [.int 1] ⟨0, []⟩) = true := by decide +kernel
theorem law_val (ns : List Int) (hn : ns.length ≤ 63) : ∃ h', m_law [.fro (ns.map W.int)] ⟨0, []⟩ = .ok (.bl true) h' := by
  obtain ⟨c, h1, cs, e1, g1, _, _⟩ := cells_ok (ns := ns) (most := 1) ⟨0, []⟩ (by decide) (by decide) hn
  obtain ⟨a, b, _, _, _, e2⟩ := box_ok (C := 3191013) (by decide) (k := 0) g1 (by decide)
  obtain ⟨d, h3, a', c', e3, d0, d2, _⟩ := take_ok (t := h1.n) (a := a) (b := b) (c := 0) (m := 2) (MH.get_push (h := h1)) (by decide) (by decide) (by decide) (by decide)
  have ea : isT (m__law_arms_right [.int d] ⟨0, []⟩) = true := by
    have : d = 0 ∨ d = 1 := by omega
    rcases this with q | q
    · rw [q]; exact ga0
    · rw [q]; exact ga1
  have e1' : m__law_cells [.fro (ns.map W.int), .int 1] ⟨0, []⟩ = .ok (.ref c) h1 := e1
  have e2' : m__law_box [.ref c, .int 0] h1 = .ok (.ref h1.n) (h1.push (.lst [.int a, .int b, .int 0])) := e2
  have e3' : m__law_take [.ref h1.n, .int 2] (h1.push (.lst [.int a, .int b, .int 0])) = .ok (.int d) h3 := e3
  refine ⟨h3, mFun_rt rfl ?_⟩
  refine (dSeq_nx (dAsg_ok (w := .int d) (h1 := h3) (ws' := [some (.fro (ns.map W.int)), some (.int d)]) ?_ rfl)).trans ?_
  · refine (dOne_ok (dCons_ok ((dOne_ok (dCons_ok ((dOne_ok (dCons_ok (x := .fro (ns.map W.int)) rfl (dCons_ok (x := .int 1) rfl dNil_ok))).trans ((chkN_ok rfl).trans e1')) (dCons_ok (x := .int 0) rfl dNil_ok))).trans ((chkN_ok rfl).trans e2')) (dCons_ok (x := .int 2) rfl dNil_ok))).trans ((chkN_ok rfl).trans e3')
  · refine dRet_ok ?_
    refine (dIf_t (dTest_ok (show dCall0 (mIso m__law_values_right) _ h3 = .ok (.bl true) h3 from iso_true rfl gv))).trans ?_
    refine (dIf_t (dTest_ok (show dCall0 (mIso m__law_rest_right) _ h3 = .ok (.bl true) h3 from iso_true rfl gr))).trans ?_
    exact (dOne_ok (dCons_ok (x := .int d) rfl dNil_ok)).trans ((chkN_ok rfl).trans (iso_true rfl ea))
theorem all_mk {l : PySem.W.OpenLaw} {w : World} {K : PySem.W.Frag} {h : Heap} {mg : Str → Option Value} {fa : Addr} (X : K.In h) (G : h.Ns mainGlobals mg) (hfa : mg "law" = some (.ref fa))
    (d__law_bad_arms : DefAt K mg "_law_bad_arms" (top 71) [])
    (d_outer : DefAt K mg "outer" (top 18) ["one", "two"])
    (d_are_near : DefAt K mg "are_near" (top 41) ["arm", "other"])
    (d_is_number : DefAt K mg "is_number" (top 6) ["value"])
    (d_fits_pair : DefAt K mg "fits_pair" (top 8) ["thing"])
    (d_fits_arm : DefAt K mg "fits_arm" (top 9) ["thing"])
    (d_fits_edge : DefAt K mg "fits_edge" (top 10) ["thing"])
    (d_tupled : DefAt K mg "tupled" (top 7) ["value", "levels"])
    (d_given : DefAt K mg "given" (top 11) ["value", "levels", "fits"])
    (d_given_arm : DefAt K mg "given_arm" (top 13) ["value"])
    (d_are_neighbours : DefAt K mg "are_neighbours" (top 42) ["arm", "other"])
    (d_times : DefAt K mg "times" (top 21) ["number", "pair"])
    (d_signed_arm : DefAt K mg "signed_arm" (top 22) ["pair"])
    (d_taken_off : DefAt K mg "taken_off" (top 20) ["one", "two"])
    (d_arm_on : DefAt K mg "arm_on" (top 37) ["runs", "other", "number"])
    (d_parities : DefAt K mg "parities" (top 23) ["pair"])
    (d_given_alike : DefAt K mg "given_alike" (top 47) ["arm", "other"])
    (d_given_count : DefAt K mg "given_count" (top 16) ["value"])
    (d_inner : DefAt K mg "inner" (top 28) ["one", "two"])
    (d_added : DefAt K mg "added" (top 19) ["one", "two"])
    (d_mate_of : DefAt K mg "mate_of" (top 29) ["arm"])
    (d_one_neighbour : DefAt K mg "one_neighbour" (top 30) ["arm"])
    (d_elder_pair : DefAt K mg "elder_pair" (top 33) ["pair"])
    (d_least_pair : DefAt K mg "least_pair" (top 32) ["pair"])
    (d_told_back : DefAt K mg "told_back" (top 35) ["pair", "first", "second"])
    (d_runs_between : DefAt K mg "runs_between" (top 34) ["arm", "other"])
    (d_steps_of : DefAt K mg "steps_of" (top 36) ["runs"])
    (d_at_step : DefAt K mg "at_step" (top 50) ["arm", "other", "number"])
    (d_base_between : DefAt K mg "base_between" (top 53) ["arm", "other"])
    (d_base_of : DefAt K mg "base_of" (top 55) ["arm", "other"])
    (d_steps_apart : DefAt K mg "steps_apart" (top 38) ["arm", "other"])
    (d_depth : DefAt K mg "depth" (top 46) ["arm"])
    (d_elder : DefAt K mg "elder" (top 44) ["arm"])
    (d_given_edge : DefAt K mg "given_edge" (top 14) ["value"])
    (d_half_away : DefAt K mg "half_away" (top 63) ["arm", "far"])
    (d_part_each_other : DefAt K mg "part_each_other" (top 24) ["way", "other"])
    (d_halves : DefAt K mg "halves" (top 62) ["edge", "other"])
    (d_check_kinds : DefAt K mg "check_kinds" (top 52) ["arms"])
    (d_stands_in_half : DefAt K mg "stands_in_half" (top 54) ["base", "third"])
    (d_is_in_half : DefAt K mg "is_in_half" (top 56) ["arm", "other", "third"])
    (d_length : DefAt K mg "length" (top 49) ["arm", "other"])
    (d_given_all : DefAt K mg "given_all" (top 12) ["value", "levels", "fits"])
    (d_given_arms : DefAt K mg "given_arms" (top 15) ["value"])
    (d_many_in_half : DefAt K mg "many_in_half" (top 57) ["arm", "other", "arms"])
    (d_arm_between : DefAt K mg "arm_between" (top 40) ["arm", "other", "number"])
    (d_median_among : DefAt K mg "median_among" (top 61) ["arms"])
    (d_median : DefAt K mg "median" (top 60) ["arms"])
    (d_multiples_within : DefAt K mg "multiples_within" (top 31) ["start", "step", "most"])
    (d_neighbours : DefAt K mg "neighbours" (top 43) ["arm", "most"])
    (d_root_of : DefAt K mg "root_of" (top 45) ["arm"])
    (d_lengths_to : DefAt K mg "lengths_to" (top 59) ["arms", "arm"])
    (d_sum_of_ways : DefAt K mg "sum_of_ways" (top 58) ["arms", "arm"])
    (d_arms_along : DefAt K mg "arms_along" (top 39) ["arm", "other"])
    (d_way : DefAt K mg "way" (top 48) ["arm", "other"])
    (d__law_told : DefAt K mg "_law_told" (top 69) ["door", "one_so", "two_so", "three_so"])
    (d__law_heard : DefAt K mg "_law_heard" (top 70) ["door", "one_so", "two_so", "three_so"])
    (d__law_same : DefAt K mg "_law_same" (top 68) ["got", "due"])
    (d__law_arms_right : DefAt K mg "_law_arms_right" (top 72) ["first_so"])
    (d__law_box : DefAt K mg "_law_box" (top 65) ["script", "k"])
    (d__law_cells : DefAt K mg "_law_cells" (top 67) ["script", "most_so"])
    (d__law_rest_right : DefAt K mg "_law_rest_right" (top 73) [])
    (d__law_take : DefAt K mg "_law_take" (top 66) ["tin", "below_so"])
    (d__law_values_right : DefAt K mg "_law_values_right" (top 74) [])
    (d_law : DefAt K mg "law" (top 75) ["script"])
    (z_ValueError : PySem.W.nsIn K mainGlobals "ValueError" = some none)
    (z_abs : PySem.W.nsIn K mainGlobals "abs" = some none)
    (z_all : PySem.W.nsIn K mainGlobals "all" = some none)
    (z_bool : PySem.W.nsIn K mainGlobals "bool" = some none)
    (z_enumerate : PySem.W.nsIn K mainGlobals "enumerate" = some none)
    (z_int : PySem.W.nsIn K mainGlobals "int" = some none)
    (z_isinstance : PySem.W.nsIn K mainGlobals "isinstance" = some none)
    (z_len : PySem.W.nsIn K mainGlobals "len" = some none)
    (z_list : PySem.W.nsIn K mainGlobals "list" = some none)
    (z_max : PySem.W.nsIn K mainGlobals "max" = some none)
    (z_min : PySem.W.nsIn K mainGlobals "min" = some none)
    (z_range : PySem.W.nsIn K mainGlobals "range" = some none)
    (z_set : PySem.W.nsIn K mainGlobals "set" = some none)
    (z_sorted : PySem.W.nsIn K mainGlobals "sorted" = some none)
    (z_str : PySem.W.nsIn K mainGlobals "str" = some none)
    (z_sum : PySem.W.nsIn K mainGlobals "sum" = some none)
    (z_tuple : PySem.W.nsIn K mainGlobals "tuple" = some none)
    (z_zip : PySem.W.nsIn K mainGlobals "zip" = some none)
    {t_MOST_NEIGHBOURS : Tok} (c_MOST_NEIGHBOURS : PySem.W.nsIn K mainGlobals "MOST_NEIGHBOURS" = some (some (.int 1000 t_MOST_NEIGHBOURS)))
    {t_MOST_ARMS : Tok} (c_MOST_ARMS : PySem.W.nsIn K mainGlobals "MOST_ARMS" = some (some (.int 2000 t_MOST_ARMS)))
    (c_gcd : PySem.W.nsIn K mainGlobals "gcd" = some (some (.builtin "math.gcd")))
    {C0 : Addr} {C1 : Addr} {C2 : Addr} (x0 : ExcIn K "CanNot" C0) (x1 : ExcIn K "TooMany" C1) (x2 : ExcIn K "Unfit" C2)
    (s0_0 : PySem.W.subIn K (.ref C0) (.ref C0) = some true)
    (s0_1 : PySem.W.subIn K (.ref C0) (.ref C1) = some false)
    (s0_2 : PySem.W.subIn K (.ref C0) (.ref C2) = some false)
    (s1_0 : PySem.W.subIn K (.ref C1) (.ref C0) = some false)
    (s1_1 : PySem.W.subIn K (.ref C1) (.ref C1) = some true)
    (s1_2 : PySem.W.subIn K (.ref C1) (.ref C2) = some false)
    (s2_0 : PySem.W.subIn K (.ref C2) (.ref C0) = some false)
    (s2_1 : PySem.W.subIn K (.ref C2) (.ref C1) = some false)
    (s2_2 : PySem.W.subIn K (.ref C2) (.ref C2) = some true)
    (hv : ∀ ns : List Int, ns.length ≤ 63 → ∃ h', m_law [.fro (ns.map W.int)] ⟨0, []⟩ = .ok (.bl true) h') :
    ∃ fd : FuncData, (∀ (s : Shared) (v : Value), BindsTo s fd ⟨[v], []⟩ [("script", v)]) ∧ ∀ base : Heap, K.In base → base.Ns mainGlobals mg → FnOk l.prog w K mg base (L2.CX l.prog w) 17 fa fd ["script"] (spLaw K) := by
  obtain ⟨f_halves, fd_halves, F_halves, b_halves, v_halves⟩ := d_halves.ex
  obtain ⟨f_sum_of_ways, fd_sum_of_ways, F_sum_of_ways, b_sum_of_ways, v_sum_of_ways⟩ := d_sum_of_ways.ex
  obtain ⟨f_many_in_half, fd_many_in_half, F_many_in_half, b_many_in_half, v_many_in_half⟩ := d_many_in_half.ex
  obtain ⟨f_is_in_half, fd_is_in_half, F_is_in_half, b_is_in_half, v_is_in_half⟩ := d_is_in_half.ex
  obtain ⟨f_at_step, fd_at_step, F_at_step, b_at_step, v_at_step⟩ := d_at_step.ex
  obtain ⟨f_neighbours, fd_neighbours, F_neighbours, b_neighbours, v_neighbours⟩ := d_neighbours.ex
  obtain ⟨f_base_of, fd_base_of, F_base_of, b_base_of, v_base_of⟩ := d_base_of.ex
  obtain ⟨f_length, fd_length, F_length, b_length, v_length⟩ := d_length.ex
  obtain ⟨f_way, fd_way, F_way, b_way, v_way⟩ := d_way.ex
  obtain ⟨f_are_neighbours, fd_are_neighbours, F_are_neighbours, b_are_neighbours, v_are_neighbours⟩ := d_are_neighbours.ex
  obtain ⟨f_depth, fd_depth, F_depth, b_depth, v_depth⟩ := d_depth.ex
  obtain ⟨f_root_of, fd_root_of, F_root_of, b_root_of, v_root_of⟩ := d_root_of.ex
  obtain ⟨f_elder, fd_elder, F_elder, b_elder, v_elder⟩ := d_elder.ex
  obtain ⟨f_fits_arm, fd_fits_arm, F_fits_arm, b_fits_arm, v_fits_arm⟩ := d_fits_arm.ex
  obtain ⟨f_fits_edge, fd_fits_edge, F_fits_edge, b_fits_edge, v_fits_edge⟩ := d_fits_edge.ex
  let g : Gd := { K := K, fad := fun n => [f_halves, f_sum_of_ways, f_many_in_half, f_is_in_half, f_at_step, f_neighbours, f_base_of, f_length, f_way, f_are_neighbours, f_depth, f_root_of, f_elder, f_fits_arm, f_fits_edge].getD n 0, cad := fun n => [C0, C1, C2].getD n 0 }
  have T : Txt g mg := {
    d__law_bad_arms := d__law_bad_arms
    d_outer := d_outer
    d_are_near := d_are_near
    d_is_number := d_is_number
    d_fits_pair := d_fits_pair
    d_fits_arm := d_fits_arm
    d_fits_edge := d_fits_edge
    d_tupled := d_tupled
    d_given := d_given
    d_given_arm := d_given_arm
    d_are_neighbours := d_are_neighbours
    d_times := d_times
    d_signed_arm := d_signed_arm
    d_taken_off := d_taken_off
    d_arm_on := d_arm_on
    d_parities := d_parities
    d_given_alike := d_given_alike
    d_given_count := d_given_count
    d_inner := d_inner
    d_added := d_added
    d_mate_of := d_mate_of
    d_one_neighbour := d_one_neighbour
    d_elder_pair := d_elder_pair
    d_least_pair := d_least_pair
    d_told_back := d_told_back
    d_runs_between := d_runs_between
    d_steps_of := d_steps_of
    d_at_step := d_at_step
    d_base_between := d_base_between
    d_base_of := d_base_of
    d_steps_apart := d_steps_apart
    d_depth := d_depth
    d_elder := d_elder
    d_given_edge := d_given_edge
    d_half_away := d_half_away
    d_part_each_other := d_part_each_other
    d_halves := d_halves
    d_check_kinds := d_check_kinds
    d_stands_in_half := d_stands_in_half
    d_is_in_half := d_is_in_half
    d_length := d_length
    d_given_all := d_given_all
    d_given_arms := d_given_arms
    d_many_in_half := d_many_in_half
    d_arm_between := d_arm_between
    d_median_among := d_median_among
    d_median := d_median
    d_multiples_within := d_multiples_within
    d_neighbours := d_neighbours
    d_root_of := d_root_of
    d_lengths_to := d_lengths_to
    d_sum_of_ways := d_sum_of_ways
    d_arms_along := d_arms_along
    d_way := d_way
    d__law_told := d__law_told
    d__law_heard := d__law_heard
    d__law_same := d__law_same
    d__law_arms_right := d__law_arms_right
    d__law_box := d__law_box
    d__law_cells := d__law_cells
    d__law_rest_right := d__law_rest_right
    d__law_take := d__law_take
    d__law_values_right := d__law_values_right
    d_law := d_law
    v_halves := v_halves
    v_sum_of_ways := v_sum_of_ways
    v_many_in_half := v_many_in_half
    v_is_in_half := v_is_in_half
    v_at_step := v_at_step
    v_neighbours := v_neighbours
    v_base_of := v_base_of
    v_length := v_length
    v_way := v_way
    v_are_neighbours := v_are_neighbours
    v_depth := v_depth
    v_root_of := v_root_of
    v_elder := v_elder
    v_fits_arm := v_fits_arm
    v_fits_edge := v_fits_edge
    z_ValueError := PySem.W.mg_none_of X G z_ValueError
    z_abs := PySem.W.mg_none_of X G z_abs
    z_all := PySem.W.mg_none_of X G z_all
    z_bool := PySem.W.mg_none_of X G z_bool
    z_enumerate := PySem.W.mg_none_of X G z_enumerate
    z_int := PySem.W.mg_none_of X G z_int
    z_isinstance := PySem.W.mg_none_of X G z_isinstance
    z_len := PySem.W.mg_none_of X G z_len
    z_list := PySem.W.mg_none_of X G z_list
    z_max := PySem.W.mg_none_of X G z_max
    z_min := PySem.W.mg_none_of X G z_min
    z_range := PySem.W.mg_none_of X G z_range
    z_set := PySem.W.mg_none_of X G z_set
    z_sorted := PySem.W.mg_none_of X G z_sorted
    z_str := PySem.W.mg_none_of X G z_str
    z_sum := PySem.W.mg_none_of X G z_sum
    z_tuple := PySem.W.mg_none_of X G z_tuple
    z_zip := PySem.W.mg_none_of X G z_zip
    c_MOST_NEIGHBOURS := ⟨t_MOST_NEIGHBOURS, PySem.W.mg_of X G c_MOST_NEIGHBOURS⟩
    c_MOST_ARMS := ⟨t_MOST_ARMS, PySem.W.mg_of X G c_MOST_ARMS⟩
    c_gcd := PySem.W.mg_of X G c_gcd
    x_CanNot := x0.at X G rfl rfl
    x_TooMany := x1.at X G rfl rfl
    x_Unfit := x2.at X G rfl rfl
    hx := fun c k hc hk => by
      match c, k, hc, hk with
      | 0, 0, _, _ => exact exm_any x0.sub x0.cl x0.sub x0.ty s0_0
      | 0, 1, _, _ => exact exm_any x0.sub x1.cl x1.sub x1.ty s0_1
      | 0, 2, _, _ => exact exm_any x0.sub x2.cl x2.sub x2.ty s0_2
      | 1, 0, _, _ => exact exm_any x1.sub x0.cl x0.sub x0.ty s1_0
      | 1, 1, _, _ => exact exm_any x1.sub x1.cl x1.sub x1.ty s1_1
      | 1, 2, _, _ => exact exm_any x1.sub x2.cl x2.sub x2.ty s1_2
      | 2, 0, _, _ => exact exm_any x2.sub x0.cl x0.sub x0.ty s2_0
      | 2, 1, _, _ => exact exm_any x2.sub x1.cl x1.sub x1.ty s2_1
      | 2, 2, _, _ => exact exm_any x2.sub x2.cl x2.sub x2.ty s2_2
  }
  obtain ⟨f, fd, F, hb, hm⟩ := d_law.ex
  have e := hfa.symm.trans hm
  cases e
  refine ⟨fd, fun s v => ?_, fun base _ _ => law_of (g := g) rfl (okF_law T F) hv⟩
  obtain ⟨oc, od, kV, doc, pm, an, cdv, ct, osl, rfl, lk, hcd⟩ := F.ex
  exact .of_eq rfl
theorem walk {l : PySem.W.OpenLaw} {q : Program} {loose : List Str} {XP : (Str → Option Value) → Heap → Prop} {YP : World → Heap → Prop} {d : DefRec} {K : Params → PySem.W.Frag} (hn : l.most = some 63) (hdf : d.params.defaults = [])
    (hY : ∀ (w : World) (h : Heap), YP w h → (K w.params).In h)
    (F : ∀ (w : World) (mg : Str → Option Value) (fa : Addr) (h : Heap), (K w.params).In h → h.Ns mainGlobals mg → mg d.name = some (.ref fa) →
      ∃ fd : FuncData, (∀ (s : Shared) (u : Value), BindsTo s fd ⟨[u], []⟩ [("script", u)]) ∧ ∀ base : Heap, (K w.params).In base → base.Ns mainGlobals mg → FnOk l.prog w (K w.params) mg base (L2.CX l.prog w) 17 fa fd ["script"] (spLaw (K w.params))) :
    PySem.W.WalkO q loose XP YP l.row.toRowW d [] (fun f vs => PySem.call f vs) :=
  L2.walk_of (n := 63) (k := 17) (x := "script") (CX := fun w => L2.CX l.prog w) (sp := fun w => spLaw (K w.params)) hn (by decide) hdf ⟨rfl, by decide, by decide⟩ hY F (fun _ _ a ns hl o hS => ⟨a, ns, rfl, o, hS, hl, fun _ => rfl⟩) fun _ _ _ _ _ ⟨_, _, _, _, _, _, _, _, _, _, _, _, z⟩ => z
end M.K13

set_option Elab.async false
set_option linter.all false
open PySem PySem.W PyProof.Rows in
set_option maxRecDepth 100000 in
set_option maxHeartbeats 0 in
theorem PySem.Challenge.cw_middledots_k13_arms_and_halves_refused_holds : PySem.Challenge.rw_middledots_k13_arms_and_halves_refused.Holds := by
  w_on; o_law; k_head; (case hw => w_witness2)
  k_fill
  refine M.K13.walk (l := PySem.Challenge.rw_middledots_k13_arms_and_halves_refused) rfl rfl (fun w h Y => PySem.W.kIn_of Y) ?F
  case F =>
    intro w mg fa h KX G hmg
    refine' M.K13.all_mk KX G hmg ?d__law_bad_arms ?d_outer ?d_are_near ?d_is_number ?d_fits_pair ?d_fits_arm ?d_fits_edge ?d_tupled ?d_given ?d_given_arm ?d_are_neighbours ?d_times ?d_signed_arm ?d_taken_off ?d_arm_on ?d_parities ?d_given_alike ?d_given_count ?d_inner ?d_added ?d_mate_of ?d_one_neighbour ?d_elder_pair ?d_least_pair ?d_told_back ?d_runs_between ?d_steps_of ?d_at_step ?d_base_between ?d_base_of ?d_steps_apart ?d_depth ?d_elder ?d_given_edge ?d_half_away ?d_part_each_other ?d_halves ?d_check_kinds ?d_stands_in_half ?d_is_in_half ?d_length ?d_given_all ?d_given_arms ?d_many_in_half ?d_arm_between ?d_median_among ?d_median ?d_multiples_within ?d_neighbours ?d_root_of ?d_lengths_to ?d_sum_of_ways ?d_arms_along ?d_way ?d__law_told ?d__law_heard ?d__law_same ?d__law_arms_right ?d__law_box ?d__law_cells ?d__law_rest_right ?d__law_take ?d__law_values_right ?d_law ?z_ValueError ?z_abs ?z_all ?z_bool ?z_enumerate ?z_int ?z_isinstance ?z_len ?z_list ?z_max ?z_min ?z_range ?z_set ?z_sorted ?z_str ?z_sum ?z_tuple ?z_zip ?c_MOST_NEIGHBOURS ?c_MOST_ARMS ?c_gcd ?x0 ?x1 ?x2 ?s0_0 ?s0_1 ?s0_2 ?s1_0 ?s1_1 ?s1_2 ?s2_0 ?s2_1 ?s2_2 ?hv
    (case d__law_bad_arms => (refine' M.defAt_of KX G ?a ?l ?c ?k ?b; (case a => k_is); (case l => k_is); (case c => k_is); (case k => k_is); (case b => exact fun _ _ _ _ _ _ us hl => match us, hl with | [], _ => rfl)))
    (case d_outer => (refine' M.defAt_of KX G ?a ?l ?c ?k ?b; (case a => k_is); (case l => k_is); (case c => k_is); (case k => k_is); (case b => exact fun _ _ _ _ _ _ us hl => match us, hl with | [_, _], _ => rfl)))
    (case d_are_near => (refine' M.defAt_of KX G ?a ?l ?c ?k ?b; (case a => k_is); (case l => k_is); (case c => k_is); (case k => k_is); (case b => exact fun _ _ _ _ _ _ us hl => match us, hl with | [_, _], _ => rfl)))
    (case d_is_number => (refine' M.defAt_of KX G ?a ?l ?c ?k ?b; (case a => k_is); (case l => k_is); (case c => k_is); (case k => k_is); (case b => exact fun _ _ _ _ _ _ us hl => match us, hl with | [_], _ => rfl)))
    (case d_fits_pair => (refine' M.defAt_of KX G ?a ?l ?c ?k ?b; (case a => k_is); (case l => k_is); (case c => k_is); (case k => k_is); (case b => exact fun _ _ _ _ _ _ us hl => match us, hl with | [_], _ => rfl)))
    (case d_fits_arm => (refine' M.defAt_of KX G ?a ?l ?c ?k ?b; (case a => k_is); (case l => k_is); (case c => k_is); (case k => k_is); (case b => exact fun _ _ _ _ _ _ us hl => match us, hl with | [_], _ => rfl)))
    (case d_fits_edge => (refine' M.defAt_of KX G ?a ?l ?c ?k ?b; (case a => k_is); (case l => k_is); (case c => k_is); (case k => k_is); (case b => exact fun _ _ _ _ _ _ us hl => match us, hl with | [_], _ => rfl)))
    (case d_tupled => (refine' M.defAt_of KX G ?a ?l ?c ?k ?b; (case a => k_is); (case l => k_is); (case c => k_is); (case k => k_is); (case b => exact fun _ _ _ _ _ _ us hl => match us, hl with | [_, _], _ => rfl)))
    (case d_given => (refine' M.defAt_of KX G ?a ?l ?c ?k ?b; (case a => k_is); (case l => k_is); (case c => k_is); (case k => k_is); (case b => exact fun _ _ _ _ _ _ us hl => match us, hl with | [_, _, _], _ => rfl)))
    (case d_given_arm => (refine' M.defAt_of KX G ?a ?l ?c ?k ?b; (case a => k_is); (case l => k_is); (case c => k_is); (case k => k_is); (case b => exact fun _ _ _ _ _ _ us hl => match us, hl with | [_], _ => rfl)))
    (case d_are_neighbours => (refine' M.defAt_of KX G ?a ?l ?c ?k ?b; (case a => k_is); (case l => k_is); (case c => k_is); (case k => k_is); (case b => exact fun _ _ _ _ _ _ us hl => match us, hl with | [_, _], _ => rfl)))
    (case d_times => (refine' M.defAt_of KX G ?a ?l ?c ?k ?b; (case a => k_is); (case l => k_is); (case c => k_is); (case k => k_is); (case b => exact fun _ _ _ _ _ _ us hl => match us, hl with | [_, _], _ => rfl)))
    (case d_signed_arm => (refine' M.defAt_of KX G ?a ?l ?c ?k ?b; (case a => k_is); (case l => k_is); (case c => k_is); (case k => k_is); (case b => exact fun _ _ _ _ _ _ us hl => match us, hl with | [_], _ => rfl)))
    (case d_taken_off => (refine' M.defAt_of KX G ?a ?l ?c ?k ?b; (case a => k_is); (case l => k_is); (case c => k_is); (case k => k_is); (case b => exact fun _ _ _ _ _ _ us hl => match us, hl with | [_, _], _ => rfl)))
    (case d_arm_on => (refine' M.defAt_of KX G ?a ?l ?c ?k ?b; (case a => k_is); (case l => k_is); (case c => k_is); (case k => k_is); (case b => exact fun _ _ _ _ _ _ us hl => match us, hl with | [_, _, _], _ => rfl)))
    (case d_parities => (refine' M.defAt_of KX G ?a ?l ?c ?k ?b; (case a => k_is); (case l => k_is); (case c => k_is); (case k => k_is); (case b => exact fun _ _ _ _ _ _ us hl => match us, hl with | [_], _ => rfl)))
    (case d_given_alike => (refine' M.defAt_of KX G ?a ?l ?c ?k ?b; (case a => k_is); (case l => k_is); (case c => k_is); (case k => k_is); (case b => exact fun _ _ _ _ _ _ us hl => match us, hl with | [_, _], _ => rfl)))
    (case d_given_count => (refine' M.defAt_of KX G ?a ?l ?c ?k ?b; (case a => k_is); (case l => k_is); (case c => k_is); (case k => k_is); (case b => exact fun _ _ _ _ _ _ us hl => match us, hl with | [_], _ => rfl)))
    (case d_inner => (refine' M.defAt_of KX G ?a ?l ?c ?k ?b; (case a => k_is); (case l => k_is); (case c => k_is); (case k => k_is); (case b => exact fun _ _ _ _ _ _ us hl => match us, hl with | [_, _], _ => rfl)))
    (case d_added => (refine' M.defAt_of KX G ?a ?l ?c ?k ?b; (case a => k_is); (case l => k_is); (case c => k_is); (case k => k_is); (case b => exact fun _ _ _ _ _ _ us hl => match us, hl with | [_, _], _ => rfl)))
    (case d_mate_of => (refine' M.defAt_of KX G ?a ?l ?c ?k ?b; (case a => k_is); (case l => k_is); (case c => k_is); (case k => k_is); (case b => exact fun _ _ _ _ _ _ us hl => match us, hl with | [_], _ => rfl)))
    (case d_one_neighbour => (refine' M.defAt_of KX G ?a ?l ?c ?k ?b; (case a => k_is); (case l => k_is); (case c => k_is); (case k => k_is); (case b => exact fun _ _ _ _ _ _ us hl => match us, hl with | [_], _ => rfl)))
    (case d_elder_pair => (refine' M.defAt_of KX G ?a ?l ?c ?k ?b; (case a => k_is); (case l => k_is); (case c => k_is); (case k => k_is); (case b => exact fun _ _ _ _ _ _ us hl => match us, hl with | [_], _ => rfl)))
    (case d_least_pair => (refine' M.defAt_of KX G ?a ?l ?c ?k ?b; (case a => k_is); (case l => k_is); (case c => k_is); (case k => k_is); (case b => exact fun _ _ _ _ _ _ us hl => match us, hl with | [_], _ => rfl)))
    (case d_told_back => (refine' M.defAt_of KX G ?a ?l ?c ?k ?b; (case a => k_is); (case l => k_is); (case c => k_is); (case k => k_is); (case b => exact fun _ _ _ _ _ _ us hl => match us, hl with | [_, _, _], _ => rfl)))
    (case d_runs_between => (refine' M.defAt_of KX G ?a ?l ?c ?k ?b; (case a => k_is); (case l => k_is); (case c => k_is); (case k => k_is); (case b => exact fun _ _ _ _ _ _ us hl => match us, hl with | [_, _], _ => rfl)))
    (case d_steps_of => (refine' M.defAt_of KX G ?a ?l ?c ?k ?b; (case a => k_is); (case l => k_is); (case c => k_is); (case k => k_is); (case b => exact fun _ _ _ _ _ _ us hl => match us, hl with | [_], _ => rfl)))
    (case d_at_step => (refine' M.defAt_of KX G ?a ?l ?c ?k ?b; (case a => k_is); (case l => k_is); (case c => k_is); (case k => k_is); (case b => exact fun _ _ _ _ _ _ us hl => match us, hl with | [_, _, _], _ => rfl)))
    (case d_base_between => (refine' M.defAt_of KX G ?a ?l ?c ?k ?b; (case a => k_is); (case l => k_is); (case c => k_is); (case k => k_is); (case b => exact fun _ _ _ _ _ _ us hl => match us, hl with | [_, _], _ => rfl)))
    (case d_base_of => (refine' M.defAt_of KX G ?a ?l ?c ?k ?b; (case a => k_is); (case l => k_is); (case c => k_is); (case k => k_is); (case b => exact fun _ _ _ _ _ _ us hl => match us, hl with | [_, _], _ => rfl)))
    (case d_steps_apart => (refine' M.defAt_of KX G ?a ?l ?c ?k ?b; (case a => k_is); (case l => k_is); (case c => k_is); (case k => k_is); (case b => exact fun _ _ _ _ _ _ us hl => match us, hl with | [_, _], _ => rfl)))
    (case d_depth => (refine' M.defAt_of KX G ?a ?l ?c ?k ?b; (case a => k_is); (case l => k_is); (case c => k_is); (case k => k_is); (case b => exact fun _ _ _ _ _ _ us hl => match us, hl with | [_], _ => rfl)))
    (case d_elder => (refine' M.defAt_of KX G ?a ?l ?c ?k ?b; (case a => k_is); (case l => k_is); (case c => k_is); (case k => k_is); (case b => exact fun _ _ _ _ _ _ us hl => match us, hl with | [_], _ => rfl)))
    (case d_given_edge => (refine' M.defAt_of KX G ?a ?l ?c ?k ?b; (case a => k_is); (case l => k_is); (case c => k_is); (case k => k_is); (case b => exact fun _ _ _ _ _ _ us hl => match us, hl with | [_], _ => rfl)))
    (case d_half_away => (refine' M.defAt_of KX G ?a ?l ?c ?k ?b; (case a => k_is); (case l => k_is); (case c => k_is); (case k => k_is); (case b => exact fun _ _ _ _ _ _ us hl => match us, hl with | [_, _], _ => rfl)))
    (case d_part_each_other => (refine' M.defAt_of KX G ?a ?l ?c ?k ?b; (case a => k_is); (case l => k_is); (case c => k_is); (case k => k_is); (case b => exact fun _ _ _ _ _ _ us hl => match us, hl with | [_, _], _ => rfl)))
    (case d_halves => (refine' M.defAt_of KX G ?a ?l ?c ?k ?b; (case a => k_is); (case l => k_is); (case c => k_is); (case k => k_is); (case b => exact fun _ _ _ _ _ _ us hl => match us, hl with | [_, _], _ => rfl)))
    (case d_check_kinds => (refine' M.defAt_of KX G ?a ?l ?c ?k ?b; (case a => k_is); (case l => k_is); (case c => k_is); (case k => k_is); (case b => exact fun _ _ _ _ _ _ us hl => match us, hl with | [_], _ => rfl)))
    (case d_stands_in_half => (refine' M.defAt_of KX G ?a ?l ?c ?k ?b; (case a => k_is); (case l => k_is); (case c => k_is); (case k => k_is); (case b => exact fun _ _ _ _ _ _ us hl => match us, hl with | [_, _], _ => rfl)))
    (case d_is_in_half => (refine' M.defAt_of KX G ?a ?l ?c ?k ?b; (case a => k_is); (case l => k_is); (case c => k_is); (case k => k_is); (case b => exact fun _ _ _ _ _ _ us hl => match us, hl with | [_, _, _], _ => rfl)))
    (case d_length => (refine' M.defAt_of KX G ?a ?l ?c ?k ?b; (case a => k_is); (case l => k_is); (case c => k_is); (case k => k_is); (case b => exact fun _ _ _ _ _ _ us hl => match us, hl with | [_, _], _ => rfl)))
    (case d_given_all => (refine' M.defAt_of KX G ?a ?l ?c ?k ?b; (case a => k_is); (case l => k_is); (case c => k_is); (case k => k_is); (case b => exact fun _ _ _ _ _ _ us hl => match us, hl with | [_, _, _], _ => rfl)))
    (case d_given_arms => (refine' M.defAt_of KX G ?a ?l ?c ?k ?b; (case a => k_is); (case l => k_is); (case c => k_is); (case k => k_is); (case b => exact fun _ _ _ _ _ _ us hl => match us, hl with | [_], _ => rfl)))
    (case d_many_in_half => (refine' M.defAt_of KX G ?a ?l ?c ?k ?b; (case a => k_is); (case l => k_is); (case c => k_is); (case k => k_is); (case b => exact fun _ _ _ _ _ _ us hl => match us, hl with | [_, _, _], _ => rfl)))
    (case d_arm_between => (refine' M.defAt_of KX G ?a ?l ?c ?k ?b; (case a => k_is); (case l => k_is); (case c => k_is); (case k => k_is); (case b => exact fun _ _ _ _ _ _ us hl => match us, hl with | [_, _, _], _ => rfl)))
    (case d_median_among => (refine' M.defAt_of KX G ?a ?l ?c ?k ?b; (case a => k_is); (case l => k_is); (case c => k_is); (case k => k_is); (case b => exact fun _ _ _ _ _ _ us hl => match us, hl with | [_], _ => rfl)))
    (case d_median => (refine' M.defAt_of KX G ?a ?l ?c ?k ?b; (case a => k_is); (case l => k_is); (case c => k_is); (case k => k_is); (case b => exact fun _ _ _ _ _ _ us hl => match us, hl with | [_], _ => rfl)))
    (case d_multiples_within => (refine' M.defAt_of KX G ?a ?l ?c ?k ?b; (case a => k_is); (case l => k_is); (case c => k_is); (case k => k_is); (case b => exact fun _ _ _ _ _ _ us hl => match us, hl with | [_, _, _], _ => rfl)))
    (case d_neighbours => (refine' M.defAt_of KX G ?a ?l ?c ?k ?b; (case a => k_is); (case l => k_is); (case c => k_is); (case k => k_is); (case b => exact fun _ _ _ _ _ _ us hl => match us, hl with | [_, _], _ => rfl)))
    (case d_root_of => (refine' M.defAt_of KX G ?a ?l ?c ?k ?b; (case a => k_is); (case l => k_is); (case c => k_is); (case k => k_is); (case b => exact fun _ _ _ _ _ _ us hl => match us, hl with | [_], _ => rfl)))
    (case d_lengths_to => (refine' M.defAt_of KX G ?a ?l ?c ?k ?b; (case a => k_is); (case l => k_is); (case c => k_is); (case k => k_is); (case b => exact fun _ _ _ _ _ _ us hl => match us, hl with | [_, _], _ => rfl)))
    (case d_sum_of_ways => (refine' M.defAt_of KX G ?a ?l ?c ?k ?b; (case a => k_is); (case l => k_is); (case c => k_is); (case k => k_is); (case b => exact fun _ _ _ _ _ _ us hl => match us, hl with | [_, _], _ => rfl)))
    (case d_arms_along => (refine' M.defAt_of KX G ?a ?l ?c ?k ?b; (case a => k_is); (case l => k_is); (case c => k_is); (case k => k_is); (case b => exact fun _ _ _ _ _ _ us hl => match us, hl with | [_, _], _ => rfl)))
    (case d_way => (refine' M.defAt_of KX G ?a ?l ?c ?k ?b; (case a => k_is); (case l => k_is); (case c => k_is); (case k => k_is); (case b => exact fun _ _ _ _ _ _ us hl => match us, hl with | [_, _], _ => rfl)))
    (case d__law_told => (refine' M.defAt_of KX G ?a ?l ?c ?k ?b; (case a => k_is); (case l => k_is); (case c => k_is); (case k => k_is); (case b => exact fun _ _ _ _ _ _ us hl => match us, hl with | [_, _, _, _], _ => rfl)))
    (case d__law_heard => (refine' M.defAt_of KX G ?a ?l ?c ?k ?b; (case a => k_is); (case l => k_is); (case c => k_is); (case k => k_is); (case b => exact fun _ _ _ _ _ _ us hl => match us, hl with | [_, _, _, _], _ => rfl)))
    (case d__law_same => (refine' M.defAt_of KX G ?a ?l ?c ?k ?b; (case a => k_is); (case l => k_is); (case c => k_is); (case k => k_is); (case b => exact fun _ _ _ _ _ _ us hl => match us, hl with | [_, _], _ => rfl)))
    (case d__law_arms_right => (refine' M.defAt_of KX G ?a ?l ?c ?k ?b; (case a => k_is); (case l => k_is); (case c => k_is); (case k => k_is); (case b => exact fun _ _ _ _ _ _ us hl => match us, hl with | [_], _ => rfl)))
    (case d__law_box => (refine' M.defAt_of KX G ?a ?l ?c ?k ?b; (case a => k_is); (case l => k_is); (case c => k_is); (case k => k_is); (case b => exact fun _ _ _ _ _ _ us hl => match us, hl with | [_, _], _ => rfl)))
    (case d__law_cells => (refine' M.defAt_of KX G ?a ?l ?c ?k ?b; (case a => k_is); (case l => k_is); (case c => k_is); (case k => k_is); (case b => exact fun _ _ _ _ _ _ us hl => match us, hl with | [_, _], _ => rfl)))
    (case d__law_rest_right => (refine' M.defAt_of KX G ?a ?l ?c ?k ?b; (case a => k_is); (case l => k_is); (case c => k_is); (case k => k_is); (case b => exact fun _ _ _ _ _ _ us hl => match us, hl with | [], _ => rfl)))
    (case d__law_take => (refine' M.defAt_of KX G ?a ?l ?c ?k ?b; (case a => k_is); (case l => k_is); (case c => k_is); (case k => k_is); (case b => exact fun _ _ _ _ _ _ us hl => match us, hl with | [_, _], _ => rfl)))
    (case d__law_values_right => (refine' M.defAt_of KX G ?a ?l ?c ?k ?b; (case a => k_is); (case l => k_is); (case c => k_is); (case k => k_is); (case b => exact fun _ _ _ _ _ _ us hl => match us, hl with | [], _ => rfl)))
    (case d_law => (refine' M.defAt_of KX G ?a ?l ?c ?k ?b; (case a => k_is); (case l => k_is); (case c => k_is); (case k => k_is); (case b => exact fun _ _ _ _ _ _ us hl => match us, hl with | [_], _ => rfl)))
    (case z_ValueError => k_is)
    (case z_abs => k_is)
    (case z_all => k_is)
    (case z_bool => k_is)
    (case z_enumerate => k_is)
    (case z_int => k_is)
    (case z_isinstance => k_is)
    (case z_len => k_is)
    (case z_list => k_is)
    (case z_max => k_is)
    (case z_min => k_is)
    (case z_range => k_is)
    (case z_set => k_is)
    (case z_sorted => k_is)
    (case z_str => k_is)
    (case z_sum => k_is)
    (case z_tuple => k_is)
    (case z_zip => k_is)
    (case c_MOST_NEIGHBOURS => k_is)
    (case c_MOST_ARMS => k_is)
    (case c_gcd => k_is)
    (case x0 => (refine' ⟨?x0a, ?x0q, ?x0kp, ?x0sub, ?x0ty, ?x0cl, ?x0hg, ?x0hk, ?x0hd, ?x0ha, ?x0hn, ?x0ht, ?x0hm, ?x0sv⟩; (case x0a => k_is); (case x0q => k_exc); (case x0kp => k_is); (case x0sub => k_is); (case x0ty => k_is); (case x0cl => k_is); (case x0hg => k_is); (case x0hk => k_is); (case x0hd => k_is); (case x0ha => k_is); (case x0hn => k_is); (case x0ht => k_is); (case x0hm => k_is); (case x0sv => k_is)))
    (case x1 => (refine' ⟨?x1a, ?x1q, ?x1kp, ?x1sub, ?x1ty, ?x1cl, ?x1hg, ?x1hk, ?x1hd, ?x1ha, ?x1hn, ?x1ht, ?x1hm, ?x1sv⟩; (case x1a => k_is); (case x1q => k_exc); (case x1kp => k_is); (case x1sub => k_is); (case x1ty => k_is); (case x1cl => k_is); (case x1hg => k_is); (case x1hk => k_is); (case x1hd => k_is); (case x1ha => k_is); (case x1hn => k_is); (case x1ht => k_is); (case x1hm => k_is); (case x1sv => k_is)))
    (case x2 => (refine' ⟨?x2a, ?x2q, ?x2kp, ?x2sub, ?x2ty, ?x2cl, ?x2hg, ?x2hk, ?x2hd, ?x2ha, ?x2hn, ?x2ht, ?x2hm, ?x2sv⟩; (case x2a => k_is); (case x2q => k_exc); (case x2kp => k_is); (case x2sub => k_is); (case x2ty => k_is); (case x2cl => k_is); (case x2hg => k_is); (case x2hk => k_is); (case x2hd => k_is); (case x2ha => k_is); (case x2hn => k_is); (case x2ht => k_is); (case x2hm => k_is); (case x2sv => k_is)))
    (case s0_0 => first | rfl | k_is)
    (case s0_1 => first | rfl | k_is)
    (case s0_2 => first | rfl | k_is)
    (case s1_0 => first | rfl | k_is)
    (case s1_1 => first | rfl | k_is)
    (case s1_2 => first | rfl | k_is)
    (case s2_0 => first | rfl | k_is)
    (case s2_1 => first | rfl | k_is)
    (case s2_2 => first | rfl | k_is)
    (case hv => exact fun ns hn => M.K13.law_val ns hn)
