import PyProof.Rows.All
import Wide.All
import OpenK.AllK
import Wide.FinOn
import Lean
import PyProof.EqAt
import PyProof.EqKinds
import PyProof.TupleCall
import PySem.Challenge.RW_lastword_k11_whole_each_word_once
set_option Elab.async false
set_option linter.all false
set_option maxRecDepth 100000
set_option maxHeartbeats 4000000
abbrev Fg := PySem.W.Frag
abbrev Pn := List (PySem.Addr × PySem.Obj)
namespace L2
open PySem PySem.Spec PyProof.Rows
abbrev Key := Sum Int Str
def Qhs : Key → Value → Bool
 | .inl k, v => Value.isInt k v
 | .inr x, v => Value.isStrOf x v
def keyH (w : World) : Key → Int
 | .inl k => hashInt k
 | .inr x => hashStr w x
theorem Q9 : ∀ {k : Key} {v : Value}, Qhs k v = true → (∃ i t, k = Sum.inl i ∧ v = Value.int i t) ∨ (∃ x t, k = Sum.inr x ∧ v = Value.str x t)
 | .inl i, v, h => by
  obtain ⟨t, e⟩ := Value.isInt_shape (k := i) (v := v) h
  exact .inl ⟨i, t, rfl, e⟩
 | .inr x, v, h => by
  obtain ⟨t, e⟩ := Value.isStrOf_shape (x := x) (v := v) h
  exact .inr ⟨x, t, rfl, e⟩
theorem Qir (i : Int) (t : Tok) : Qhs (.inl i) (.int i t) = true := by simp [Qhs, Value.isInt]
theorem QbR (x : Str) (t : Tok) : Qhs (.inr x) (.str x t) = true := by simp [Qhs, Value.isStrOf]
theorem key_ll (a b : Int) : decide ((Sum.inl a : Key) = Sum.inl b) = (a == b) := by
 by_cases e : a = b
 ·subst e; simp
 ·have h : ¬ (Sum.inl a : Key) = Sum.inl b := fun q => e (Sum.inl.inj q)
  rw [decide_eq_false h]
  exact (beq_eq_false_iff_ne.mpr e).symm
theorem key_rr (a b : Str) : decide ((Sum.inr a : Key) = Sum.inr b) = decide (a = b) := by
 by_cases e : a = b
 ·subst e; simp
 ·have h : ¬ (Sum.inr a : Key) = Sum.inr b := fun q => e (Sum.inr.inj q)
  rw [decide_eq_false h, decide_eq_false e]
theorem key_lr (a : Int) (b : Str) : decide ((Sum.inl a : Key) = Sum.inr b) = false := decide_eq_false (fun q => nomatch q)
theorem key_rl (a : Str) (b : Int) : decide ((Sum.inr a : Key) = Sum.inl b) = false := decide_eq_false (fun q => nomatch q)
def Q0 (prog : Program) (w : World) : PySem.KeyKind prog w Key where
 is := Qhs
 hash := keyH w
 inj := fun v a b ha hb => by
  rcases Q9 ha with ⟨i, t, rfl, rfl⟩ | ⟨x, t, rfl, rfl⟩
  ·rcases Q9 hb with ⟨j, u, rfl, e⟩ | ⟨y, u, rfl, e⟩
   ·injection e with e1 _; rw [e1]
   ·exact nomatch e
  ·rcases Q9 hb with ⟨j, u, rfl, e⟩ | ⟨y, u, rfl, e⟩
   ·exact nomatch e
   ·injection e with e1 _; rw [e1]
 byValue := fun k v h => by
  rcases Q9 h with ⟨i, t, rfl, rfl⟩ | ⟨x, t, rfl, rfl⟩ <;> rfl
 pyHash := fun hv h => by
  rcases Q9 hv with ⟨i, t, rfl, rfl⟩ | ⟨x, t, rfl, rfl⟩
  ·exact wpAny_pyHash_int h
  ·exact wpAny_pyHash_str h
 eqBool := fun hu hv h => by
  rcases Q9 hu with ⟨i, t, rfl, rfl⟩ | ⟨x, t, rfl, rfl⟩
  ·rcases Q9 hv with ⟨j, u, rfl, rfl⟩ | ⟨y, u, rfl, rfl⟩
   ·rw [key_ll] at h; exact wpAny_eqBool_int h
   ·rw [key_lr] at h; exact SeqAt.EqAt.int_str i t y u _ _ _ _ h
  ·rcases Q9 hv with ⟨j, u, rfl, rfl⟩ | ⟨y, u, rfl, rfl⟩
   ·rw [key_rl] at h; exact SeqAt.EqAt.str_int x t j u _ _ _ _ h
   ·rw [key_rr] at h; exact wpAny_eqBool_str h
 «strs» := fun k x t v h => by
  rcases Q9 h with ⟨i, u, rfl, e⟩ | ⟨y, u, rfl, e⟩
  ·exact nomatch e
  ·injection e with e1 _
   subst e1
   cases v <;> rfl
theorem QgI (prog : Program) (w : World) (i : Int) (t : Tok) : (Q0 prog w).is (.inl i) (.int i t) = true := Qir i t
theorem QgH (prog : Program) (w : World) (x : Str) (t : Tok) : (Q0 prog w).is (.inr x) (.str x t) = true := QbR x t
end L2
namespace L2
open PySem PySem.Spec PyProof.Rows
inductive V where
 | non | bl (b : Bool) | int (i : Int) | str (x : Str) | byt (b : Array UInt8) | flt (b : UInt64) | ref (a : Addr) | ty (n : String)
 deriving DecidableEq
def RelV : V → Value → Prop
 | .non, u => u = Value.none
 | .bl b, u => u = Value.bool b
 | .int i, u => ∃ t, u = Value.int i t
 | .str x, u => ∃ t, u = Value.str x t
 | .byt b, u => ∃ t, u = Value.bytes b t
 | .flt b, u => ∃ t, u = Value.float b t
 | .ref a, u => u = Value.ref a
 | .ty n, u => u = Value.type n
abbrev Vals : List V → List Value → Prop := Paired RelV
theorem Vals.length {xs : List V} {us : List Value} (r : Vals xs us) : xs.length = us.length := Paired.length r
theorem Vals.get : ∀ {xs : List V} {us : List Value} {i : Nat} {x : V}, Vals xs us → xs[i]? = some x → ∃ u, us[i]? = some u ∧ RelV x u
 | _, _, _, _, .nil, e => by simp at e
 | _, _, 0, _, .cons r _, e => by simp at e; subst e; exact ⟨_, rfl, r⟩
 | _, _, i + 1, x, .cons _ t, e => by
  obtain ⟨u, h1, h2⟩ := Vals.get (i := i) (x := x) t (by simpa using e)
  exact ⟨u, by simpa using h1, h2⟩
theorem Vals.set {x : V} {u : Value} (r : RelV x u) : ∀ {xs : List V} {us : List Value} (i : Nat), Vals xs us → Vals (xs.set i x) (us.set i u)
 | _, _, _, .nil => .nil
 | _, _, 0, .cons _ t => .cons r t
 | _, _, i + 1, .cons q t => .cons q (Vals.set r i t)
theorem Vals.append : ∀ {xs ys : List V} {us ws : List Value}, Vals xs us → Vals ys ws → Vals (xs ++ ys) (us ++ ws)
 | _, _, _, _, .nil, s => s
 | _, _, _, _, .cons r t, s => .cons r (Vals.append t s)
theorem Vals.take : ∀ {xs : List V} {us : List Value} (n : Nat), Vals xs us → Vals (xs.take n) (us.take n)
 | _, _, 0, _ => .nil
 | _, _, _ + 1, .nil => .nil
 | _, _, n + 1, .cons r t => .cons r (Vals.take n t)
theorem Vals.drop : ∀ {xs : List V} {us : List Value} (n : Nat), Vals xs us → Vals (xs.drop n) (us.drop n)
 | _, _, 0, r => r
 | _, _, _ + 1, .nil => .nil
 | _, _, n + 1, .cons _ t => Vals.drop n t
def RelO : Option V → Option Value → Prop
 | some v, some u => RelV v u
 | none, none => True
 | _, _ => False
def KV {κ : Type} : List (κ × V) → List (κ × Value) → Prop := Paired fun (p : κ × V) (q : κ × Value) => p.1 = q.1 ∧ RelV p.2 q.2
def kV : Key → V
 | .inl i => .int i
 | .inr x => .str x
inductive HO where
 /-- a list -/
 | lst (xs : List V)
 /-- a tuple (never changes) -/
 | tup (xs : List V)
 /-- a dict whose keys are ints and texts; one whose keys are tuples of ints and texts (the empty one is both) -/
 | dK (kvs : List (Key × V)) | dT (kvs : List (List Key × V))
 /-- a set of ints: its members, its size -/
 | set (S : Int → Bool) (n : Nat)
 /-- an instance of the class at C, its dict at dx, its attributes -/
 | ins (C dx : Addr) (fs : List (Str × V))
 /-- the dict of the instance at x -/
 | own (x : Addr)
 /-- the dict of an exception -/
 | xd (fs : List (Str × V))
 /-- a bound method, f of x -/
 | met (f x : Addr)
 /-- a range object lo, lo + 1, .. below hi -/
 | rng (lo hi : Int)
 /-- a thing that is known to the object (the script; a dict while a loop walks it): read, never written while it is so -/
 | frz (o : Obj) (u : HO)
 /-- a code object's table -/
 | tbl (ps : Array Value)
 /-- any other thing, by what is true of its one object (a def of one's own: SetO a S n := HO.ext fun h => ..) -/
 | ext (φ : Heap → Prop)
abbrev Hp := Addr → Option HO
def upd (H : Hp) (a : Addr) (o : HO) : Hp := fun b => if b = a then some o else H b
theorem Qb {H : Hp} {a : Addr} {o : HO} : upd H a o a = some o := by unfold upd; rw [if_pos rfl]
theorem Qf {H : Hp} {a b : Addr} {o : HO} (h : b ≠ a) : upd H a o b = H b := by unfold upd; rw [if_neg h]
theorem QB {H : Hp} {a b : Addr} {o u : HO} (h : H a = some o) (h' : H b = some u) (d : o ≠ u) : a ≠ b := by
 intro e; subst e; rw [h] at h'; exact d (Option.some.inj h')
theorem Qd {H : Hp} {a b : Addr} {o : HO} (h : H a = some o) (h' : H b = none) : a ≠ b := by
 intro e; subst e; rw [h] at h'; cases h'
section
variable (P : Program) (w : World)
def ObjOk (H : Hp) (h : Heap) (a : Addr) : HO → Prop
 | .lst xs => xs.length ≤ sizeLine ∧ ∃ (its : List Value) (n : Nat), Vals xs its ∧ h.get? a = some { cls := .type "list", data := .seq its.toArray n }
 | .tup xs => xs.length ≤ sizeLine ∧ ∃ its : List Value, Vals xs its ∧ IsTup h a its.toArray
 | .dK kvs => kvs.length ≤ sizeLine ∧ (a == sysModules) = false ∧ ∃ vs, KV kvs vs ∧ h.DictOf (Q0 P w) a vs
 | .dT kvs => kvs.length ≤ sizeLine ∧ (a == sysModules) = false ∧ ∃ xs : List (List Key × Addr × Value),
   Paired (fun (p : List Key × V) (q : List Key × Addr × Value) => p.1 = q.1 ∧ H q.2.1 = some (.tup (p.1.map kV)) ∧ RelV p.2 q.2.2) kvs xs ∧
   ∃ o es ep, h.get? a = some o ∧ o.ExactDict ∧ o.data = .dict es ep ∧ es.toList = xs.map (entryOfKey (tupleKind (Q0 P w))) ∧ (xs.map (·.1)).Nodup
 | .set S n => h.SetOf (intKind P w) a S n
 | .ins C dx fs => H dx = some (.own a) ∧ fs.length ≤ 1000 ∧ dx ≠ a ∧ h.get? a = some (PySem.W.instObj C dx) ∧
   ∃ mA, h.Ns1 dx mA ∧ (∀ f, RelO (fs.lookup f) (mA f)) ∧ PySem.Within mA (fs.map (·.1))
 | .own _ => ∃ o, h.get? a = some o
 | .xd fs => ∃ mA, h.Ns1 a mA ∧ ∀ f, RelO (fs.lookup f) (mA f)
 | .rng lo hi => ∃ t u v, h.get? a = some { cls := .type "range", data := .fields #[.int lo t, .int hi u, .int 1 v] }
 | .frz o u => h.get? a = some o ∧ ObjOk H h a u
 | .tbl ps => h.get? a = some { cls := .none, data := .fields ps }
 | .met f x => h.get? a = some (PySem.W.methodObj (.ref f) (.ref x))
 | .ext φ => φ h ∧ (∃ o, h.get? a = some o) ∧ ∀ h1 h2 : Heap, φ h1 → (∀ o, h1.get? a = some o → h2.get? a = some o) → φ h2
def HOk (H : Hp) (h : Heap) : Prop := ∀ a o, H a = some o → ObjOk P w H h a o
end
section
variable {P : Program} {w : World} {H H' : Hp} {h h' : Heap} {a : Addr} {o : HO}
theorem ObjOk.lt (x : ObjOk P w H h a o) : a < h.objs.size := by
 cases o with
 | lst xs => obtain ⟨_, _, _, _, e⟩ := x; exact Heap.lt_size e
 | tup xs => obtain ⟨_, _, _, p⟩ := x; exact p.lt
 | dK kvs => obtain ⟨_, _, _, _, o, _, _, e, _⟩ := x; exact Heap.lt_size e
 | dT kvs => obtain ⟨_, _, _, _, o, _, _, e, _⟩ := x; exact Heap.lt_size e
 | set S n => obtain ⟨o, _, _, _, e, _⟩ := x; exact Heap.lt_size e
 | ins C dx fs => obtain ⟨_, _, _, e, _⟩ := x; exact Heap.lt_size e
 | own y => obtain ⟨_, e⟩ := x; exact Heap.lt_size e
 | xd fs => obtain ⟨_, ⟨_, _, _, e, _⟩, _⟩ := x; exact Heap.lt_size e
 | rng lo hi => obtain ⟨_, _, _, e⟩ := x; exact Heap.lt_size e
 | frz ob u => obtain ⟨e, _⟩ := x; exact Heap.lt_size e
 | tbl ps => exact Heap.lt_size (show h.get? a = some _ from x)
 | met f y => exact Heap.lt_size (show h.get? a = some _ from x)
 | ext φ => obtain ⟨_, ⟨_, e⟩, _⟩ := x; exact Heap.lt_size e
theorem Paired.mapP {α β : Type} {F G : α → β → Prop} : ∀ {l₁ : List α} {l₂ : List β}, Paired F l₁ l₂ → (∀ a b, F a b → G a b) → Paired G l₁ l₂
 | _, _, .nil, _ => .nil
 | _, _, .cons r t, f => .cons (f _ _ r) (Paired.mapP t f)
theorem ObjOk.stay (x : ObjOk P w H h a o) (k : ∀ b u, (b = a ∨ H b = some (.own a)) → h.get? b = some u → h'.get? b = some u)
  (ho : ∀ b, H b = some (.own a) → H' b = some (.own a)) (ht : ∀ b xs, H b = some (.tup xs) → H' b = some (.tup xs)) : ObjOk P w H' h' a o := by
 induction o with
 | lst xs => obtain ⟨z, its, n, r, e⟩ := x; exact ⟨z, its, n, r, k _ _ (.inl rfl) e⟩
 | tup xs => obtain ⟨z, its, r, ob, e, c⟩ := x; exact ⟨z, its, r, ob, k _ _ (.inl rfl) e, c⟩
 | dK kvs => obtain ⟨z, y, vs, r, ob, es, ep, e, c⟩ := x; exact ⟨z, y, vs, r, ob, es, ep, k _ _ (.inl rfl) e, c⟩
 | dT kvs =>
  obtain ⟨z, y, xs, r, ob, es, ep, e, c⟩ := x
  exact ⟨z, y, xs, Paired.mapP r fun p q z => ⟨z.1, ht _ _ z.2.1, z.2.2⟩, ob, es, ep, k _ _ (.inl rfl) e, c⟩
 | set S n => obtain ⟨ob, es, ep, t, e, c⟩ := x; exact ⟨ob, es, ep, t, k _ _ (.inl rfl) e, c⟩
 | ins C dx fs =>
  obtain ⟨d, z, ne, e, mA, ⟨od, es, ep, e2, c⟩, r⟩ := x
  exact ⟨ho _ d, z, ne, k _ _ (.inl rfl) e, mA, ⟨od, es, ep, k _ _ (.inr d) e2, c⟩, r⟩
 | own y => obtain ⟨ob, e⟩ := x; exact ⟨ob, k _ _ (.inl rfl) e⟩
 | xd fs => obtain ⟨mA, ⟨od, es, ep, e, c⟩, r⟩ := x; exact ⟨mA, ⟨od, es, ep, k _ _ (.inl rfl) e, c⟩, r⟩
 | rng lo hi => obtain ⟨t, u, v, e⟩ := x; exact ⟨t, u, v, k _ _ (.inl rfl) e⟩
 | frz ob u ih => obtain ⟨e, q⟩ := x; exact ⟨k _ _ (.inl rfl) e, ih q⟩
 | tbl ps =>
  have e : h.get? a = some { cls := .none, data := .fields ps } := x
  show h'.get? a = some { cls := .none, data := .fields ps }
  exact k a _ (.inl rfl) e
 | met f y =>
  have e : h.get? a = some (PySem.W.methodObj (.ref f) (.ref y)) := x
  show h'.get? a = some (PySem.W.methodObj (.ref f) (.ref y))
  exact k a _ (.inl rfl) e
 | ext φ => obtain ⟨p, ⟨o, e⟩, st⟩ := x; exact ⟨st _ _ p fun o q => k _ _ (.inl rfl) q, ⟨o, k _ _ (.inl rfl) e⟩, st⟩
theorem HOk.lt (x : HOk P w H h) (e : H a = some o) : a < h.objs.size := (x a o e).lt
theorem HOk.fresh (x : HOk P w H h) (e : h.objs.size ≤ a) : H a = none := by
 cases q : H a with
 | none => rfl
 | some u => exact absurd (Nat.lt_of_lt_of_le (x.lt q) e) (Nat.lt_irrefl _)
theorem HOk.kept (x : HOk P w H h) (k : ∀ b u, h.get? b = some u → h'.get? b = some u) : HOk P w H h' := fun a o e =>
 (x a o e).stay (fun b u _ q => k b u q) (fun _ q => q) fun _ _ q => q
theorem HOk.laid (x : HOk P w H h) (k : ∀ b u, h.get? b = some u → h'.get? b = some u) (hp : h.objs.size ≤ a) (new : ObjOk P w (upd H a o) h' a o) : HOk P w (upd H a o) h' := fun b u e => by
 have hn := x.fresh hp
 by_cases hb : b = a
 ·subst hb; rw [Qb] at e; cases e; exact new
 ·rw [Qf hb] at e
  exact (x b u e).stay (fun c v _ q => k c v q) (fun c q => by rw [Qf (Qd q hn)]; exact q) fun c xs q => by rw [Qf (Qd q hn)]; exact q
end
def Rd (H : Hp) (a : Addr) (u : HO) : Prop := H a = some u ∨ ∃ o, H a = some (.frz o u)
theorem Rd.of {H : Hp} {a : Addr} {u : HO} (h : H a = some u) : Rd H a u := .inl h
theorem Rd.ok {P : Program} {w : World} {H : Hp} {h : Heap} {a : Addr} {u : HO} (r : Rd H a u) (x : HOk P w H h) : ObjOk P w H h a u := by
 rcases r with r | ⟨o, r⟩
 ·exact x a u r
 ·obtain ⟨_, q⟩ := x a _ r
  exact q
def Mut : Option HO → Prop
 | some (.lst _) => True
 | some (.dK _) => True
 | some (.dT _) => True
 | some (.set _ _) => True
 | some (.ins _ _ _) => True
 | some (.ext _) => True
 | _ => False
section
variable {P : Program} {w : World} {H : Hp} {h h' : Heap} {x e : Addr} {o' : HO}
theorem HOk.write (ok : HOk P w H h) (mu : Mut (H x)) (he : e = x ∨ H e = some (.own x)) (k : ∀ b u, b ≠ e → h.get? b = some u → h'.get? b = some u) (heo : ∃ u, h'.get? e = some u)
  (new : ObjOk P w (upd H x o') h' x o') : HOk P w (upd H x o') h' := fun b u q => by
 have nown : ∀ c y, H c = some (.own y) → c ≠ x := fun c y r z => by subst z; rw [r] at mu; exact mu
 have ntup : ∀ c xs, H c = some (.tup xs) → c ≠ x := fun c xs r z => by subst z; rw [r] at mu; exact mu
 by_cases hb : b = x
 ·subst hb; rw [Qb] at q; cases q; exact new
 ·rw [Qf hb] at q
  by_cases hbe : b = e
  ·have q' : H b = some (.own x) := by
    rcases he with z | z
    ·exact absurd (hbe.trans z) hb
    ·rw [hbe]; exact z
   rw [q] at q'; cases q'
   obtain ⟨v, hv⟩ := heo
   exact ⟨v, by rw [hbe]; exact hv⟩
  ·refine (ok b u q).stay (fun c v hc r => k c v ?_ r) (fun c r => by rw [Qf (nown c b r)]; exact r) fun c xs r => by rw [Qf (ntup c xs r)]; exact r
   rcases hc with rfl | hc
   ·exact hbe
   ·rintro rfl
    rcases he with z | z
    ·exact nown c b hc z
    ·rw [hc] at z; cases z; exact hb rfl
end
structure Un (fs ex : List Addr) (H H' : Hp) (h h' : Heap) : Prop where
 keep : ∀ b o, h.get? b = some o → H b = none → b ∉ fs → b ∉ ex → h'.get? b = some o
 slot : ∀ b o, h.get? b = some o → H b = none → b ∈ fs → b ∉ ex → ∃ sl, h'.get? b = some { o with slots := sl }
 free : ∀ b o, h.get? b = some o → H b = none → b ∉ ex → H' b = none
 there : ∀ b o, h.get? b = some o → b ∉ ex → ∃ o', h'.get? b = some o'
 tups : ∀ b xs, H b = some (.tup xs) → H' b = some (.tup xs)
 frzs : ∀ b o u, H b = some (.frz o u) → H' b = some (.frz o u)
 tbls : ∀ b ps, H b = some (.tbl ps) → ∃ more, H' b = some (.tbl (ps ++ more))
section
variable {fs fs' ex ex' : List Addr} {H H1 H2 : Hp} {h h1 h2 h' : Heap} {a x e : Addr} {o : HO}
theorem Un.any (u : Un fs ex H H1 h h1) {b : Addr} {ob : Obj} (q : h.get? b = some ob) (n : H b = none) (hx : b ∉ ex) : ∃ sl, h1.get? b = some { ob with slots := sl } := by
 by_cases hb : b ∈ fs
 ·exact u.slot b ob q n hb hx
 ·exact ⟨ob.slots, u.keep b ob q n hb hx⟩
theorem Un.kept (k : ∀ b u, h.get? b = some u → h'.get? b = some u) : Un fs ex H H h h' :=
 ⟨fun b ob q _ _ _ => k b ob q, fun b ob q _ _ _ => ⟨ob.slots, k b ob q⟩, fun _ _ _ n _ => n, fun b ob q _ => ⟨ob, k b ob q⟩, fun _ _ q => q, fun _ _ _ q => q, fun _ ps q => ⟨#[], by rw [q]; simp⟩⟩
theorem Un.refl : Un fs ex H H h h := Un.kept fun _ _ q => q
theorem Un.laid (k : ∀ b u, h.get? b = some u → h'.get? b = some u) (hp : h.objs.size ≤ a) (hn : H a = none) : Un fs ex H (upd H a o) h h' where
 keep := fun b u q _ _ _ => k b u q
 slot := fun b u q _ _ _ => ⟨u.slots, k b u q⟩
 free := fun b u q n _ => by rw [Qf (Nat.ne_of_lt (Nat.lt_of_lt_of_le (Heap.lt_size q) hp))]; exact n
 there := fun b u q _ => ⟨u, k b u q⟩
 tups := fun b xs q => by rw [Qf (Qd q hn)]; exact q
 frzs := fun b u xs q => by rw [Qf (Qd q hn)]; exact q
 tbls := fun b ps q => ⟨#[], by rw [Qf (Qd q hn), q]; simp⟩
theorem Un.write (mu : Mut (H x)) (he : e = x ∨ H e = some (.own x)) (k : ∀ b u, b ≠ e → h.get? b = some u → h'.get? b = some u) (heo : ∃ u, h'.get? e = some u) : Un fs ex H (upd H x o) h h' := by
 have hx : ∀ b, H b = none → b ≠ x := fun b n z => by subst z; rw [n] at mu; exact mu
 have hb : ∀ b, H b = none → b ≠ e := fun b n z => by
  subst z
  rcases he with r | r
  ·exact hx b n r
  ·rw [n] at r; cases r
 have hm : ∀ b u, H b = some u → ¬ Mut (some u) → b ≠ x := fun b u q nm z => by subst z; rw [q] at mu; exact nm mu
 refine ⟨fun b u q n _ _ => k b u (hb b n) q, fun b u q n _ _ => ⟨u.slots, k b u (hb b n) q⟩, fun b u q n _ => by rw [Qf (hx b n)]; exact n, fun b u q _ => ?_,
  fun b xs q => by rw [Qf (hm b _ q fun z => z)]; exact q, fun b u xs q => by rw [Qf (hm b _ q fun z => z)]; exact q, fun b ps q => ⟨#[], by rw [Qf (hm b _ q fun z => z), q]; simp⟩⟩
 by_cases hbe : b = e
 ·subst hbe; exact heo
 ·exact ⟨u, k b u hbe q⟩
end
def trk (h : Heap) (H : Hp) : List Addr := (List.range h.objs.size).filter fun a => (H a).isSome
def QjC (h : Heap) (H : Hp) : Heap := PySem.W.hideAll h (trk h H)
theorem Qiz (h : Heap) (H : Hp) : (QjC h H).objs.size = h.objs.size := PySem.W.hideAll_size _ _
theorem QjB {h : Heap} {H : Hp} {b : Addr} {o : Obj} (e : h.get? b = some o) (n : H b = none) : (QjC h H).get? b = some o :=
 PySem.W.hideAll_get _ e fun hm => by
  have q : (H b).isSome = true := (List.mem_filter.mp hm).2
  rw [n] at q; simp at q
theorem QkE {h : Heap} {H : Hp} {b : Addr} {o : Obj} (e : (QjC h H).get? b = some o) : h.get? b = some o ∧ H b = none := by
 have e' : h.get? b = some o := PySem.W.of_hideAll (trk h H) e
 refine ⟨e', ?_⟩
 cases q : H b with
 | none => rfl
 | some x =>
  have hm : b ∈ trk h H := List.mem_filter.mpr ⟨List.mem_range.mpr (Heap.lt_size e'), by simp [q]⟩
  have z : (QjC h H).get? b = none := PySem.W.hideAll_none (trk h H) hm
  rw [z] at e; cases e
def QkR (g h : Heap) (L : Addr) : Pn := (List.range h.objs.size).filterMap fun a => if a = L ∨ (g.get? a).isSome = true then none else (h.get? a).map fun o => (a, o)
def QeI (g h : Heap) (L d : Addr) : Pn := (QkR g h L).filter fun p => decide (p.1 ≠ d)
end L2
namespace L2
open PySem PySem.Spec PyProof.Rows
structure Mod (K : Fg) (mg : Str → Option Value) (base : Heap) : Prop where
 kin : K.In base
 glob : base.Ns mainGlobals mg
 blt : ∃ mb, base.Ns builtinsNs mb ∧ ∀ x : Str, x ≠ "__name__" → mb x = bootBuiltins x
 nolimit : base.NoLimit
structure Cx where
 prog : Program
 w : World
 K : Fg
 mg : Str → Option Value
 base : Heap
 A : Around
 N : List Str
 s₀ : Shared
 H₀ : Hp
 env : Env
 outer : List Env
 stack : List Env
 ex : List Addr
 fn : Str → Bool
 calm : Bool
 pn : Pn
 xe : Value → Shared → Prop
def frs (l : List Env) : List Addr := l.filterMap (·.frame)
abbrev Cx.fs (X : Cx) : List Addr := frs X.outer
def Vis (sc : Scope) (x : Str) : Prop := sc.names.lookup x = some .local ∨ sc.names.lookup x = some .cell ∨ sc.names.lookup x = some .free
def Loc (sc : Scope) (x : Str) : Prop := sc.names.lookup x = some .local ∨ sc.names.lookup x = some .cell
def Look (env : Env) (h : Heap) (m : Str → Option Value) (x : Str) (u : Value) : Prop :=
 (env.kindOf x = some .local ∧ m x = some u) ∨ ((env.kindOf x = some .cell ∨ env.kindOf x = some .free) ∧ ∃ c, env.cells.lookup x = some c ∧ h.IsCell c (some u))
structure Cx.Ok (X : Cx) : Prop where
 mod : Mod X.K X.mg X.base
 kind : X.env.scope.kind = .function
 glob : X.env.globals = mainGlobals
 blt : X.env.builtins = builtinsNs
 above : X.s₀.heap.objs.size ≤ X.env.locals
 inj : ∀ x y c, X.env.cells.lookup x = some c → X.env.cells.lookup y = some c → x = y
 has : ∀ x, (X.env.kindOf x = some .cell ∨ X.env.kindOf x = some .free) → ∃ c, X.env.cells.lookup x = some c
 cab : ∀ x c, X.fn x = true → X.env.cells.lookup x = some c → X.s₀.heap.objs.size ≤ c
 hd : X.calm = true → X.A.handled = none
 frames : X.A.frames = some X.stack
 stk : X.stack = X.outer ∨ (X.stack = X.env :: X.outer ∧ X.env.frame = some X.env.locals)
 exf : ∀ b ∈ X.ex, b ≠ X.env.locals ∧ ∀ x c, X.env.cells.lookup x = some c → c ≠ b
 bs : ∀ b o, X.base.get? b = some o → X.s₀.heap.get? b = some o ∧ X.H₀ b = none
 bsz : X.base.objs.size ≤ X.s₀.heap.objs.size
 noex : ∀ b o, X.base.get? b = some o → b ∉ X.ex
 exfs : ∀ b ∈ X.ex, b ∉ X.fs
 funs : X.s₀.heap.FunFrames X.base X.outer
 frf : ∀ b ∈ X.fs, X.H₀ b = none
structure Inv (X : Cx) (pins : Pn) (σ : List (Option V)) (H : Hp) (s : Shared) : Prop where
 ok : X.Ok
 os : s.os = X.s₀.os
 bare : AllBare s.gens
 base : Un X.fs X.ex X.H₀ H X.s₀.heap s.heap
 loc : ∃ m, s.heap.Ns X.env.locals m ∧ ∀ (i : Nat) (x : Str) (v : V), X.N[i]? = some x → σ[i]? = some (some v) → Vis X.env.scope x → ∃ u, RelV v u ∧ Look X.env s.heap m x u
 cell : ∀ x c, X.env.cells.lookup x = some c → ∃ v, s.heap.IsCell c v
 free : H X.env.locals = none
 freeC : ∀ x c, X.env.cells.lookup x = some c → H c = none
 pin : ∀ p ∈ X.pn ++ pins, s.heap.get? p.1 = some p.2 ∧ H p.1 = none ∧ p.1 ≠ X.env.locals ∧ p.1 ∉ X.fs ∧ ∀ v, p.2.data ≠ .cell v
 hok : HOk X.prog X.w H s.heap
 len : σ.length = X.N.length
section
variable {X : Cx} {pins : Pn} {σ : List (Option V)} {H H' : Hp} {s : Shared} {h' : Heap}
theorem Cx.Ok.nofr (ok : X.Ok) {b : Addr} {o : Obj} (e : X.base.get? b = some o) : b ∉ X.fs := fun hb => by
 have := (ok.funs.mem hb).1
 rw [e] at this; cases this
theorem Inv.bs (I : Inv X pins σ H s) : ∀ b o, X.base.get? b = some o → s.heap.get? b = some o ∧ H b = none := fun b o e =>
 ⟨I.base.keep b o (I.ok.bs b o e).1 (I.ok.bs b o e).2 (I.ok.nofr e) (I.ok.noex b o e), I.base.free b o (I.ok.bs b o e).1 (I.ok.bs b o e).2 (I.ok.noex b o e)⟩
theorem Inv.bk (I : Inv X pins σ H s) : ∀ b o, X.base.get? b = some o → s.heap.get? b = some o := fun b o e => (I.bs b o e).1
theorem Inv.mod (I : Inv X pins σ H s) : Mod X.K X.mg X.base := I.ok.mod
theorem Inv.kIn (I : Inv X pins σ H s) : X.K.In s.heap := I.ok.mod.kin.keeps I.bk
theorem Inv.lt (I : Inv X pins σ H s) : X.env.locals < s.heap.objs.size := let ⟨_, hn, _⟩ := I.loc; hn.lt
theorem Inv.sz (I : Inv X pins σ H s) : X.s₀.heap.objs.size ≤ s.heap.objs.size := Nat.le_trans I.ok.above (Nat.le_of_lt I.lt)
theorem Inv.nofs (I : Inv X pins σ H s) {a : Addr} (h : s.heap.objs.size ≤ a) : a ∉ X.fs := fun hb => by
 obtain ⟨_, o, ho, _⟩ := I.ok.funs.mem hb
 exact absurd (Nat.lt_of_lt_of_le (Heap.lt_size ho) (Nat.le_trans I.sz h)) (Nat.lt_irrefl _)
theorem Inv.cne (I : Inv X pins σ H s) : ∀ x c, X.env.cells.lookup x = some c → c ≠ X.env.locals := fun x c e z => by
 obtain ⟨v, o, ho, hd⟩ := I.cell x c e
 obtain ⟨m, ⟨o', es, ep, ho', hd', _⟩, _⟩ := I.loc
 rw [z, ho'] at ho; cases ho; rw [hd'] at hd; cases hd
theorem Inv.funs (I : Inv X pins σ H s) : s.heap.FunFrames X.base X.outer := by
 have all : ∀ (l : List Env), (∀ b ∈ frs l, b ∈ X.fs) → X.s₀.heap.FunFrames X.base l → s.heap.FunFrames X.base l := by
  intro l
  induction l with
  | nil => intro _ _; trivial
  | cons env r ih =>
   intro hs hl
   obtain ⟨hk, ⟨L, o, hf, hn, ho, hd⟩, hr⟩ := hl
   have hL : L ∈ X.fs := hs L (by unfold frs; rw [List.filterMap_cons, hf]; exact List.mem_cons_self)
   obtain ⟨sl, e⟩ := I.base.slot L o ho (I.ok.frf L hL) hL fun z => I.ok.exfs L z hL
   exact ⟨hk, ⟨L, _, hf, hn, e, hd⟩, ih (fun b hb => hs b (by unfold frs; rw [List.filterMap_cons, hf]; exact List.mem_cons_of_mem _ hb)) hr⟩
 exact all X.outer (fun _ hb => hb) I.ok.funs
theorem Inv.stack (I : Inv X pins σ H s) : s.heap.FunFrames X.base X.stack := by
 rcases I.ok.stk with e | ⟨e, hf⟩
 ·rw [e]; exact I.funs
 ·rw [e]
  obtain ⟨m, hn, _⟩ := I.loc
  refine .cons (by rw [I.ok.kind]; decide) hf hn ?_ I.funs
  exact Heap.get?_none_of_le (Nat.le_trans I.ok.bsz I.ok.above)
theorem Inv.stkSub (I : Inv X pins σ H s) : ∀ b ∈ frs X.stack, b ∈ X.env.locals :: X.fs := fun b hb => by
 rcases I.ok.stk with e | ⟨e, hf⟩
 ·rw [e] at hb; exact List.mem_cons_of_mem _ hb
 ·rw [e] at hb
  unfold frs at hb
  rw [List.filterMap_cons, hf] at hb
  exact hb
theorem Inv.stkFree (I : Inv X pins σ H s) : ∀ b ∈ frs X.stack, H b = none := fun b hb => by
 rcases List.mem_cons.mp (I.stkSub b hb) with e | hb
 ·rw [e]; exact I.free
 ·obtain ⟨_, o, ho, _⟩ := I.ok.funs.mem hb
  exact I.base.free b o ho (I.ok.frf b hb) fun z => I.ok.exfs b z hb
theorem Inv.step {g' : Array GenState} {t' : Nat} {d' : Drawn} {ch : List Addr} (I : Inv X pins σ H s)
  (hch : ∀ b ∈ ch, (b ∈ X.ex ∨ X.s₀.heap.objs.size ≤ b) ∧ b ≠ X.env.locals ∧ (∀ x c, X.env.cells.lookup x = some c → c ≠ b) ∧ ∀ p ∈ X.pn ++ pins, p.1 ≠ b)
  (keep : ∀ b o, b ≠ X.env.locals → b ∉ X.fs → b ∉ ch → s.heap.get? b = some o → H b = none → h'.get? b = some o)
  (slot : ∀ b o, b ≠ X.env.locals → b ∈ X.fs → b ∉ ch → s.heap.get? b = some o → H b = none → ∃ sl, h'.get? b = some { o with slots := sl }) (free : ∀ b o, b ∉ ch → s.heap.get? b = some o → H b = none → H' b = none)
  (there : ∀ b o, b ∉ ch → s.heap.get? b = some o → ∃ o', h'.get? b = some o')
  (tups : ∀ b xs, H b = some (.tup xs) → H' b = some (.tup xs)) (frzs : ∀ b o u, H b = some (.frz o u) → H' b = some (.frz o u)) (tbls : ∀ b ps, H b = some (.tbl ps) → ∃ more, H' b = some (.tbl (ps ++ more)))
  (ns : ∀ m, s.heap.Ns X.env.locals m → h'.Ns X.env.locals m) (hok : HOk X.prog X.w H' h') (hg : AllBare g') :
  Inv X pins σ H' { s with heap := h', gens := g', drawn := d', toks := t' } := by
 have neL : ∀ b o, X.s₀.heap.get? b = some o → b ≠ X.env.locals := fun b o e => Nat.ne_of_lt (Nat.lt_of_lt_of_le (Heap.lt_size e) I.ok.above)
 have neC : ∀ b o, X.s₀.heap.get? b = some o → b ∉ X.ex → b ∉ ch := fun b o e hx hb => by
  rcases (hch b hb).1 with z | z
  ·exact hx z
  ·exact absurd (Nat.lt_of_lt_of_le (Heap.lt_size e) z) (Nat.lt_irrefl _)
 have cellK : ∀ x c, X.env.cells.lookup x = some c → ∀ v, s.heap.IsCell c v → h'.IsCell c v := fun x c e v ⟨o, ho, hd⟩ => by
  have nch : c ∉ ch := fun z => (hch c z).2.2.1 x c e rfl
  by_cases hc : c ∈ X.fs
  ·obtain ⟨sl, q⟩ := slot c o (I.cne x c e) hc nch ho (I.freeC x c e)
   exact ⟨_, q, hd⟩
  ·exact ⟨o, keep c o (I.cne x c e) hc nch ho (I.freeC x c e), hd⟩
 refine ⟨I.ok, I.os, hg, ⟨fun b o e n hb hx => ?_, fun b o e n hb hx => ?_, fun b o e n hx => ?_, fun b o e hx => ?_, fun b xs e => tups b xs (I.base.tups b xs e), fun b o xs e => frzs b o xs (I.base.frzs b o xs e), fun b ps e => ?_⟩, ?_, fun x c e => ?_, ?_, fun x c e => ?_, fun p hp => ?_, hok, I.len⟩
 ·exact keep b o (neL b o e) hb (neC b o e hx) (I.base.keep b o e n hb hx) (I.base.free b o e n hx)
 ·obtain ⟨sl, e1⟩ := I.base.slot b o e n hb hx
  obtain ⟨sl', e2⟩ := slot b _ (neL b o e) hb (neC b o e hx) e1 (I.base.free b o e n hx)
  exact ⟨sl', e2⟩
 ·obtain ⟨o', e1⟩ := I.base.there b o e hx
  exact free b o' (neC b o e hx) e1 (I.base.free b o e n hx)
 ·obtain ⟨o', e1⟩ := I.base.there b o e hx
  exact there b o' (neC b o e hx) e1
 ·obtain ⟨m1, e1⟩ := I.base.tbls b ps e
  obtain ⟨m2, e2⟩ := tbls b _ e1
  exact ⟨m1 ++ m2, by rw [e2, Array.append_assoc]⟩
 ·obtain ⟨m, hn, hl⟩ := I.loc
  refine ⟨m, ns m hn, fun i x v e1 e2 e3 => ?_⟩
  obtain ⟨u, r, l⟩ := hl i x v e1 e2 e3
  refine ⟨u, r, ?_⟩
  rcases l with l | ⟨k, c, e, z⟩
  ·exact .inl l
  ·exact .inr ⟨k, c, e, cellK x c e _ z⟩
 ·obtain ⟨v, z⟩ := I.cell x c e
  exact ⟨v, cellK x c e v z⟩
 ·obtain ⟨m, ⟨o, _, _, ho, _⟩, _⟩ := I.loc
  exact free _ o (fun z => (hch _ z).2.1 rfl) ho I.free
 ·obtain ⟨v, o, ho, hd⟩ := I.cell x c e
  exact free c o (fun z => (hch c z).2.2.1 x c e rfl) ho (I.freeC x c e)
 ·obtain ⟨e, n, ne, nf, d⟩ := I.pin p hp
  have nch : p.1 ∉ ch := fun z => (hch p.1 z).2.2.2 p hp rfl
  exact ⟨keep p.1 p.2 ne nf nch e n, free p.1 p.2 nch e n, ne, nf, d⟩
theorem Inv.un {t' : Nat} (I : Inv X pins σ H s) (u : Un X.fs [] H H' s.heap h') (hok : HOk X.prog X.w H' h') : Inv X pins σ H' { s with heap := h', toks := t' } := by
 obtain ⟨m, ⟨o, es, ep, ho, r⟩, _⟩ := id I.loc
 obtain ⟨sl, hL⟩ := u.any ho I.free (by simp)
 exact I.step (g' := s.gens) (d' := s.drawn) (ch := []) (fun _ z => nomatch z) (fun b o _ hb _ e n => u.keep b o e n hb (by simp)) (fun b o _ hb _ e n => u.slot b o e n hb (by simp)) (fun b o _ e n => u.free b o e n (by simp)) (fun b o _ e => u.there b o e (by simp)) u.tups u.frzs u.tbls (fun m' hm => by
  obtain ⟨o', es', ep', ho', r'⟩ := hm
  rw [ho] at ho'; cases ho'
  exact ⟨_, es', ep', hL, r'⟩) hok I.bare
theorem Inv.call {g' : Array GenState} {t' : Nat} {d' : Drawn} {ch : List Addr} (I : Inv X pins σ H s) (u : Un (frs X.stack) ch H H' s.heap h') (hok : HOk X.prog X.w H' h') (hg : AllBare g')
  (hch : ∀ b ∈ ch, (b ∈ X.ex ∨ X.s₀.heap.objs.size ≤ b) ∧ b ≠ X.env.locals ∧ (∀ x c, X.env.cells.lookup x = some c → c ≠ b) ∧ ∀ p ∈ X.pn ++ pins, p.1 ≠ b) :
  Inv X pins σ H' { s with heap := h', gens := g', drawn := d', toks := t' } := by
 obtain ⟨m, ⟨o, es, ep, ho, r⟩, _⟩ := id I.loc
 obtain ⟨sl, hL⟩ := u.any ho I.free fun z => (hch _ z).2.1 rfl
 exact I.step (ch := ch) hch (fun b o hL hb hc e n => u.keep b o e n (fun z => (List.mem_cons.mp (I.stkSub b z)).elim hL hb) hc) (fun b o _ _ hc e n => u.any e n hc) (fun b o hc e n => u.free b o e n hc) (fun b o hc e => u.there b o e hc) u.tups u.frzs u.tbls (fun m' hm => by
  obtain ⟨o', es', ep', ho', r'⟩ := hm
  rw [ho] at ho'; cases ho'
  exact ⟨_, es', ep', hL, r'⟩) hok hg
theorem Inv.turned {t' : Nat} {it : Addr} (I : Inv X pins σ H s) (k : ∀ b o, b ≠ it → s.heap.get? b = some o → h'.get? b = some o) (hn : H it = none) (hL : it ≠ X.env.locals)
  (h1 : it ∈ X.ex ∨ X.s₀.heap.objs.size ≤ it) (h2 : ∀ x c, X.env.cells.lookup x = some c → c ≠ it) (h3 : ∀ p ∈ X.pn ++ pins, p.1 ≠ it) : Inv X pins σ H { s with heap := h', toks := t' } := by
 have nit : ∀ b u, H b = some u → b ≠ it := fun b u e z => by rw [z, hn] at e; cases e
 refine I.step (g' := s.gens) (d' := s.drawn) (ch := [it]) (fun b hb => ?_) (fun b o _ _ hc e _ => k b o (fun z => hc (by simp [z])) e) (fun b o _ _ hc e _ => ⟨o.slots, k b o (fun z => hc (by simp [z])) e⟩) (fun _ _ _ _ n => n)
  (fun b o hc e => ⟨o, k b o (fun z => hc (by simp [z])) e⟩) (fun _ _ e => e) (fun _ _ _ e => e) (fun b ps e => ⟨#[], by rw [e]; simp⟩) (fun m hm => ?_) (fun b u e => ?_) I.bare
 ·have e : b = it := by simpa using hb
  subst e
  exact ⟨h1, hL, h2, h3⟩
 ·obtain ⟨o, es, ep, ho, r⟩ := hm
  exact ⟨o, es, ep, k _ o (Ne.symm hL) ho, r⟩
 ·refine (I.hok b u e).stay (fun c v hc q => k c v ?_ q) (fun _ q => q) fun _ _ q => q
  rcases hc with z | z
  ·rw [z]; exact nit b u e
  ·exact nit c _ z
theorem Inv.tok (I : Inv X pins σ H s) (t : Nat) : Inv X pins σ H { s with toks := t } := I.un (h' := s.heap) (t' := t) Un.refl I.hok
theorem Inv.kept {t' : Nat} (I : Inv X pins σ H s) (k : ∀ b u, s.heap.get? b = some u → h'.get? b = some u) : Inv X pins σ H { s with heap := h', toks := t' } := I.un (Un.kept k) (I.hok.kept k)
theorem Inv.laid {a : Addr} {o : HO} {t' : Nat} (I : Inv X pins σ H s) (k : ∀ b u, s.heap.get? b = some u → h'.get? b = some u) (hp : s.heap.objs.size ≤ a) (new : ObjOk X.prog X.w (upd H a o) h' a o) :
  Inv X pins σ (upd H a o) { s with heap := h', toks := t' } := I.un (Un.laid k hp (I.hok.fresh hp)) (I.hok.laid k hp new)
theorem Inv.write {x e : Addr} {o : HO} {t' : Nat} (I : Inv X pins σ H s) (mu : Mut (H x)) (he : e = x ∨ H e = some (.own x)) (k : ∀ b u, b ≠ e → s.heap.get? b = some u → h'.get? b = some u) (heo : ∃ u, h'.get? e = some u)
  (new : ObjOk X.prog X.w (upd H x o) h' x o) : Inv X pins σ (upd H x o) { s with heap := h', toks := t' } := I.un (Un.write mu he k heo) (I.hok.write mu he k heo new)
theorem Inv.pins_of {pins' : Pn} (I : Inv X pins σ H s) (h : ∀ p ∈ pins', s.heap.get? p.1 = some p.2 ∧ H p.1 = none ∧ p.1 ≠ X.env.locals ∧ p.1 ∉ X.fs ∧ ∀ v, p.2.data ≠ .cell v) : Inv X pins' σ H s :=
 ⟨I.ok, I.os, I.bare, I.base, I.loc, I.cell, I.free, I.freeC, fun p hp => (List.mem_append.mp hp).elim (fun z => I.pin p (List.mem_append_left _ z)) (h p), I.hok, I.len⟩
theorem Qg5 {N : List Str} (hN : N.Nodup) {i j : Nat} {x : Str} (a : N[i]? = some x) (b : N[j]? = some x) : i = j := by
 obtain ⟨h1, e1⟩ := List.getElem?_eq_some_iff.mp a
 obtain ⟨h2, e2⟩ := List.getElem?_eq_some_iff.mp b
 exact (List.getElem_inj hN).mp (e1.trans e2.symm)
theorem QhM {M : Model} {A : Around} {E : Value → Shared → Prop} {i : Nat} {x : Str} {v : V} {u : Value} {Q : Unit → Shared → Prop} (I : Inv X pins σ H s) (hN : X.N.Nodup) (hi : X.N[i]? = some x) (hx : Loc X.env.scope x) (r : RelV v u)
  (h : ∀ s', Inv X pins (σ.set i (some v)) H s' → (∃ a, Heap.SameBut a s.heap s'.heap ∧ (a = X.env.locals ∨ X.env.cells.lookup x = some a)) → Q () s') (hf : X.fn x = true ∨ X.env.scope.names.lookup x = some .local := by first | exact .inl rfl | exact .inr rfl | assumption) : wpAny M A (storeName X.env x u) Q E s := by
 obtain ⟨m, hn, hl⟩ := id I.loc
 have hcls : (X.env.scope.kind == .class || (X.env.scope.kind == .module && X.env.locals != X.env.globals)) = false := by rw [I.ok.kind]; rfl
 have hiσ : i < σ.length := by rw [I.len]; exact (List.getElem?_eq_some_iff.mp hi).1
 have cne := I.cne
 have tracked : ∀ {a : Addr} {h' : Heap}, (∃ o, s.heap.get? a = some o ∧ H a = none) → Heap.SameBut a s.heap h' → HOk X.prog X.w H h' := fun {a h'} ha hs b ob e => by
  obtain ⟨_, _, hfree⟩ := ha
  refine (I.hok b ob e).stay (fun c w' hc q => (hs.2 c ?_).trans q) (fun _ q => q) fun _ _ q => q
  rintro rfl
  rcases hc with rfl | hc
  ·rw [hfree] at e; cases e
  ·rw [hfree] at hc; cases hc
 rcases hx with hk | hk
 ·refine wpAny_storeName_local hk hn (fun h' hn' hs => ?_) hcls
  obtain ⟨oL, _, _, hoL, _⟩ := id hn
  refine h _ ⟨I.ok, I.os, I.bare, ⟨fun b o e n hb hx => ?_, fun b o e n hb hx => ?_, I.base.free, fun b o e hx => ?_, I.base.tups, I.base.frzs, I.base.tbls⟩, ⟨_, hn', fun j y v' e1 e2 e3 => ?_⟩, fun y c e => ?_, I.free, I.freeC, fun p hp => ?_, tracked ⟨oL, hoL, I.free⟩ hs, by simpa using I.len⟩ ⟨_, hs, .inl rfl⟩
  ·exact (hs.2 b (Nat.ne_of_lt (Nat.lt_of_lt_of_le (Heap.lt_size e) I.ok.above))).trans (I.base.keep b o e n hb hx)
  ·obtain ⟨sl, e1⟩ := I.base.slot b o e n hb hx
   exact ⟨sl, (hs.2 b (Nat.ne_of_lt (Nat.lt_of_lt_of_le (Heap.lt_size e) I.ok.above))).trans e1⟩
  ·obtain ⟨o', e1⟩ := I.base.there b o e hx
   exact ⟨o', (hs.2 b (Nat.ne_of_lt (Nat.lt_of_lt_of_le (Heap.lt_size e) I.ok.above))).trans e1⟩
  ·by_cases hj : j = i
   ·subst hj
    rw [hi] at e1; cases e1
    rw [List.getElem?_set_self hiσ] at e2
    cases e2
    exact ⟨u, r, .inl ⟨hk, by simp⟩⟩
   ·rw [List.getElem?_set_ne (Ne.symm hj)] at e2
    obtain ⟨u', r', q⟩ := hl j y v' e1 e2 e3
    refine ⟨u', r', ?_⟩
    rcases q with ⟨k, e⟩ | ⟨k, c, e, z⟩
    ·refine .inl ⟨k, ?_⟩
     have : y ≠ x := fun e => hj (Qg5 hN e1 (e ▸ hi))
     simp [this, e]
    ·exact .inr ⟨k, c, e, z.sameBut hs (cne y c e)⟩
  ·obtain ⟨w', z⟩ := I.cell y c e
   exact ⟨w', z.sameBut hs (cne y c e)⟩
  ·obtain ⟨e, n, ne, nf, d⟩ := I.pin p hp
   exact ⟨(hs.2 p.1 ne).trans e, n, ne, nf, d⟩
 ·have hfn : X.fn x = true := by
   rcases hf with z | z
   ·exact z
   ·rw [z] at hk; cases hk
  obtain ⟨c, hc⟩ := I.ok.has x (.inl hk)
  obtain ⟨w', z⟩ := I.cell x c hc
  refine wpAny_storeName_cell I.ok.kind hk hc z (fun h' hc' hs => ?_)
  obtain ⟨oc, hoc, hocd⟩ := id z
  refine h { s with heap := h' } ⟨I.ok, I.os, I.bare, ⟨fun b o e n hb hx => ?_, fun b o e n hb hx => ?_, I.base.free, fun b o e hx => ?_, I.base.tups, I.base.frzs, I.base.tbls⟩, ⟨m, hn.sameBut hs (Ne.symm (cne x c hc)), fun j y v' e1 e2 e3 => ?_⟩, fun y c' e => ?_, I.free, I.freeC, fun p hp => ?_, tracked ⟨oc, hoc, I.freeC x c hc⟩ hs, by simpa using I.len⟩ ⟨c, hs, .inr hc⟩
  ·exact (hs.2 b (Nat.ne_of_lt (Nat.lt_of_lt_of_le (Heap.lt_size e) (I.ok.cab x c hfn hc)))).trans (I.base.keep b o e n hb hx)
  ·obtain ⟨sl, e1⟩ := I.base.slot b o e n hb hx
   exact ⟨sl, (hs.2 b (Nat.ne_of_lt (Nat.lt_of_lt_of_le (Heap.lt_size e) (I.ok.cab x c hfn hc)))).trans e1⟩
  ·obtain ⟨o', e1⟩ := I.base.there b o e hx
   exact ⟨o', (hs.2 b (Nat.ne_of_lt (Nat.lt_of_lt_of_le (Heap.lt_size e) (I.ok.cab x c hfn hc)))).trans e1⟩
  ·by_cases hj : j = i
   ·subst hj
    rw [hi] at e1; cases e1
    rw [List.getElem?_set_self hiσ] at e2
    cases e2
    exact ⟨u, r, .inr ⟨.inl hk, c, hc, hc'⟩⟩
   ·rw [List.getElem?_set_ne (Ne.symm hj)] at e2
    obtain ⟨u', r', q⟩ := hl j y v' e1 e2 e3
    refine ⟨u', r', ?_⟩
    rcases q with q | ⟨k, c', e, z'⟩
    ·exact .inl q
    ·refine .inr ⟨k, c', e, z'.sameBut hs ?_⟩
     rintro rfl
     exact hj (Qg5 hN e1 (I.ok.inj _ _ _ e hc ▸ hi))
  ·by_cases hcc : c' = c
   ·subst hcc; exact ⟨_, hc'⟩
   ·obtain ⟨w2, z2⟩ := I.cell y c' e
    exact ⟨w2, z2.sameBut hs hcc⟩
  ·obtain ⟨e, n, ne, nf, d⟩ := I.pin p hp
   refine ⟨(hs.2 p.1 ?_).trans e, n, ne, nf, d⟩
   intro q
   rw [q, hoc] at e
   have q' : oc = p.2 := Option.some.inj e
   exact d w' (by rw [← q']; exact hocd)
theorem Qcx {M : Model} {A : Around} {E : Value → Shared → Prop} {i : Nat} {x : Str} {v : V} {u : Value} {Q : Unit → Shared → Prop} (I : Inv X pins σ H s) (hN : X.N.Nodup) (hi : X.N[i]? = some x) (hx : Loc X.env.scope x) (r : RelV v u)
  (h : ∀ s', Inv X pins (σ.set i (some v)) H s' → Q () s') (hf : X.fn x = true ∨ X.env.scope.names.lookup x = some .local := by first | exact .inl rfl | exact .inr rfl | assumption) : wpAny M A (storeName X.env x u) Q E s :=
 QhM I hN hi hx r (fun s' I' _ => h s' I') hf
theorem Inv.call' {s' : Shared} {ch : List Addr} (I : Inv X pins σ H s) (ho : s'.os = s.os) (u : Un (frs X.stack) ch H H' s.heap s'.heap) (hok : HOk X.prog X.w H' s'.heap) (hg : AllBare s'.gens)
  (hch : ∀ b ∈ ch, (b ∈ X.ex ∨ X.s₀.heap.objs.size ≤ b) ∧ b ≠ X.env.locals ∧ (∀ x c, X.env.cells.lookup x = some c → c ≠ b) ∧ ∀ p ∈ X.pn ++ pins, p.1 ≠ b) : Inv X pins σ H' s' := by
 obtain ⟨h', g', d', t', o'⟩ := s'
 have e : o' = s.os := ho
 subst e
 exact I.call (g' := g') (t' := t') (d' := d') u hok hg hch
end
abbrev XK := Value → Option Addr → Hp → Prop
abbrev St := List (Option V)
abbrev VK := V → Hp → Prop
abbrev TE := St → Hp → VK → Prop
abbrev TT := St → Hp → (Bool → Hp → Prop) → Prop
abbrev TA := St → Hp → (List V → Hp → Prop) → Prop
structure Qi7 where
 nx : St → Hp → Prop
 rt : VK
 bk : St → Hp → Prop := fun _ _ => False
 ct : St → Hp → Prop := fun _ _ => False
abbrev TS := Qi7 → St → Hp → Prop
def EP (X : Cx) (pins : Pn) (σ : St) (Q : VK) (u : Value) (s' : Shared) : Prop := ∃ v H', Inv X pins σ H' s' ∧ RelV v u ∧ Q v H'
def TP (X : Cx) (pins : Pn) (σ : St) (Q : Bool → Hp → Prop) (b : Bool) (s' : Shared) : Prop := ∃ H', Inv X pins σ H' s' ∧ Q b H'
def AP (X : Cx) (pins : Pn) (σ : St) (Q : List V → Hp → Prop) (us : List Value) (s' : Shared) : Prop := ∃ vs H', Inv X pins σ H' s' ∧ Vals vs us ∧ Q vs H'
def SP (X : Cx) (pins : Pn) (D : Qi7) (f : Flow) (s' : Shared) : Prop :=
 match f with
 | .next => ∃ σ' H', Inv X pins σ' H' s' ∧ D.nx σ' H'
 | .brk => ∃ σ' H', Inv X pins σ' H' s' ∧ D.bk σ' H'
 | .cont => ∃ σ' H', Inv X pins σ' H' s' ∧ D.ct σ' H'
 | .ret u => ∃ v σ' H', Inv X pins σ' H' s' ∧ RelV v u ∧ D.rt v H'
def PE (X : Cx) (e : Expr) (t : TE) : Prop :=
 ∀ (pins : Pn) (s : Shared) (σ : St) (H : Hp) (Q : VK), Inv X pins σ H s → t σ H Q → wpAny (model X.prog X.w) X.A (eval e X.env) (EP X pins σ Q) X.xe s
def PT (X : Cx) (e : Expr) (t : TT) : Prop :=
 ∀ (pins : Pn) (s : Shared) (σ : St) (H : Hp) (Q : Bool → Hp → Prop), Inv X pins σ H s → t σ H Q → wpAny (model X.prog X.w) X.A (isTrue e X.env (eval e X.env)) (TP X pins σ Q) X.xe s
def PW (X : Cx) (e : Expr) (t : TT) : Prop :=
 ∀ (whole : Sem Value) (pins : Pn) (s : Shared) (σ : St) (H : Hp) (Q : Bool → Hp → Prop), Inv X pins σ H s → t σ H Q → wpAny (model X.prog X.w) X.A (isTrue e X.env whole) (TP X pins σ Q) X.xe s
theorem PW.pt {X : Cx} {e : Expr} {t : TT} (h : PW X e t) : PT X e t := h _
def PA (X : Cx) (es : List Expr) (t : TA) : Prop :=
 ∀ (pos : Pos) (pins : Pn) (s : Shared) (σ : St) (H : Hp) (Q : List V → Hp → Prop), Inv X pins σ H s → t σ H Q → wpAny (model X.prog X.w) X.A (spliced (backTo pos (starEach es X.env))) (AP X pins σ Q) X.xe s
def PS (X : Cx) (st : Stmt) (t : TS) : Prop :=
 ∀ (pins : Pn) (s : Shared) (σ : St) (H : Hp) (D : Qi7), Inv X pins σ H s → t D σ H → wpAny (model X.prog X.w) X.A (exec st X.env) (SP X pins D) X.xe s
def PSs (X : Cx) (st : List Stmt) (t : TS) : Prop :=
 ∀ (pins : Pn) (s : Shared) (σ : St) (H : Hp) (D : Qi7), Inv X pins σ H s → t D σ H → wpAny (model X.prog X.w) X.A (execs st X.env) (SP X pins D) X.xe s
theorem thn {α : Type} {t : Sem α} {Q Q' : α → Shared → Prop} {M : Model} {A : Around} {E : Value → Shared → Prop} {s : Shared} (h : wpAny M A t Q E s) (hQ : ∀ a s, Q a s → Q' a s) : wpAny M A t Q' E s := wpAny_mono h hQ fun _ _ x => x
end L2
namespace L2
open PySem PySem.Spec PyProof.Rows
section
variable {X : Cx}
def tVar (i : Nat) : TE := fun σ H Q => ∃ v, σ[i]? = some (some v) ∧ Q v H
def tC (v : V) : TE := fun _ H Q => Q v H
theorem pe_var {i : Nat} {x : Str} {pos : Pos} (hN : X.N[i]? = some x) (hv : Vis X.env.scope x) (hd : (x == ("__debug__" : Str)) = false := by decide) (hcd : (x == ("__classdict__" : Str)) = false := by decide) : PE X (.Name x pos) (tVar i) := by
 intro pins s σ H Q I h
 obtain ⟨v, e, h⟩ := h
 obtain ⟨m, hn, hl⟩ := I.loc
 obtain ⟨u, r, l⟩ := hl i x v hN e hv
 have fin : EP X pins σ Q u s := ⟨v, H, I, r, h⟩
 rcases l with ⟨hk, hm⟩ | ⟨hk, c, hc, hcell⟩
 ·exact wpAny_Name (wpAny_loadName_local I.ok.kind hk hn hm fin) hd
 ·rcases hk with hk | hk
  ·exact wpAny_Name (wpAny_loadName_cell I.ok.kind hk hc hcell fin) hd
  ·exact wpAny_Name (wpAny_loadName_free I.ok.kind hk hc hcell fin hcd) hd
theorem Qi {i j pos} : PE X (.Constant (.int i) j pos) (tC (.int i)) := fun _ _ _ H _ I h => wpAny_Constant_int ⟨.int i, H, I.tok _, ⟨_, rfl⟩, h⟩
theorem Qdr {b j pos} : PE X (.Constant (.bool b) j pos) (tC (.bl b)) := fun _ _ _ H _ I h => Constant_bool ⟨.bl b, H, I, rfl, h⟩
theorem QcD {j pos} : PE X (.Constant .none j pos) (tC .non) := fun _ _ _ H _ I h => Constant_none ⟨.non, H, I, rfl, h⟩
theorem Z1 {x j pos} : PE X (.Constant (.str x) j pos) (tC (.str x)) := fun _ _ _ H _ I h => Calls.Constant_str ⟨.str x, H, I.tok _, ⟨_, rfl⟩, h⟩
def Gl (X : Cx) (x : Str) : Prop := X.env.kindOf x = some .globalImplicit
theorem Qfw {E : Value → Shared → Prop} {pins : Pn} {s : Shared} {σ : St} {H : Hp} {x : Str} {u : Value} {pos : Pos} {Q : Value → Shared → Prop} (I : Inv X pins σ H s) (hg : Gl X x) (hm : X.mg x = some u) (h : Q u s)
  (hd : (x == ("__debug__" : Str)) = false := by decide) : wpAny (model X.prog X.w) X.A (eval (.Name x pos) X.env) Q E s :=
 Calls.Name_function_global I.ok.kind hg (Calls.loadGlobal_global (by rw [I.ok.glob]; exact I.mod.glob.keeps I.bk) hm h) hd
theorem Qex {E : Value → Shared → Prop} {pins : Pn} {s : Shared} {σ : St} {H : Hp} {x : Str} {u : Value} {pos : Pos} {Q : Value → Shared → Prop} (I : Inv X pins σ H s) (hg : Gl X x) (hm : X.mg x = none) (hv : bootBuiltins x = some u) (h : Q u s)
  (hn : x ≠ "__name__" := by decide) (hd : (x == ("__debug__" : Str)) = false := by decide) : wpAny (model X.prog X.w) X.A (eval (.Name x pos) X.env) Q E s := by
 obtain ⟨mb, h1, h2⟩ := I.mod.blt
 exact Calls.Name_function_global I.ok.kind hg (Calls.loadGlobal_builtin (by rw [I.ok.glob]; exact I.mod.glob.keeps I.bk) hm (by rw [I.ok.blt]; exact h1.keeps I.bk) ((h2 x hn).trans hv) h) hd
theorem QgB {x : Str} {v : V} {u : Value} {pos : Pos} (hg : Gl X x) (hm : X.mg x = some u) (r : RelV v u) (hd : (x == ("__debug__" : Str)) = false := by decide) : PE X (.Name x pos) (tC v) :=
 fun _ _ _ H _ I h => Qfw I hg hm ⟨v, H, I, r, h⟩ hd
theorem Qfm {x : Str} {v : V} {u : Value} {pos : Pos} (hg : Gl X x) (hm : X.mg x = none) (hv : bootBuiltins x = some u) (r : RelV v u) (hn : x ≠ "__name__" := by decide) (hd : (x == ("__debug__" : Str)) = false := by decide) : PE X (.Name x pos) (tC v) :=
 fun _ _ _ H _ I h => Qex I hg hm hv ⟨v, H, I, r, h⟩ hn hd
variable {a b : Expr} {ta tb : TE} {pos : Pos}
def PC (X : Cx) (op : CmpOp) (a b : Expr) (t : TE) : Prop :=
 ∀ (pins : Pn) (s : Shared) (σ : St) (H : Hp) (Q : VK), Inv X pins σ H s → t σ H Q →
  wpAny (model X.prog X.w) X.A (eval a X.env) (fun v s₁ => wpAny (model X.prog X.w) X.A (eval b X.env) (fun u s₂ => wpAny (model X.prog X.w) X.A (compareOp op v u) (EP X pins σ Q) X.xe s₂) X.xe s₁) X.xe s
theorem Qg6 (b : Expr) {op : CmpOp} (h : op ≠ .In) (h2 : op ≠ .NotIn) : behindInMarks op b = false := by
 have e1 : (op == CmpOp.In) = false := by cases op <;> first | rfl | exact absurd rfl h
 have e2 : (op == CmpOp.NotIn) = false := by cases op <;> first | rfl | exact absurd rfl h2
 cases b <;> simp [behindInMarks, e1, e2]
def tIsN (ta : TE) : TE := fun σ H Q => ta σ H fun x H1 => Q (.bl (decide (x = .non))) H1
def tNotN (ta : TE) : TE := fun σ H Q => ta σ H fun x H1 => Q (.bl (!decide (x = .non))) H1
theorem RelV.none_iff {x : V} {v : Value} (r : RelV x v) : (v == Value.none) = decide (x = .non) := by
 cases x with
 | non => cases r; rfl
 | bl _ => cases r; rfl
 | int _ => obtain ⟨t, rfl⟩ := r; rfl
 | str _ => obtain ⟨t, rfl⟩ := r; rfl
 | byt _ => obtain ⟨t, rfl⟩ := r; rfl
 | flt _ => obtain ⟨t, rfl⟩ := r; rfl
 | ref _ => cases r; rfl
 | ty _ => cases r; rfl
theorem Qj2 {j pos'} (ha : PE X a ta) : PC X .Is a (.Constant .none j pos') (tIsN ta) := by
 intro pins s σ H Q I h
 refine thn (ha pins s σ H _ I h) fun v s1 ⟨x, H1, I1, r1, q1⟩ => ?_
 exact Constant_none (is_none_gen ⟨.bl _, H1, I1, by rw [r1.none_iff]; rfl, q1⟩)
theorem Qco {j pos'} (ha : PE X a ta) : PC X .IsNot a (.Constant .none j pos') (tNotN ta) := by
 intro pins s σ H Q I h
 refine thn (ha pins s σ H _ I h) fun v s1 ⟨x, H1, I1, r1, q1⟩ => ?_
 exact Constant_none (isnot_none_gen ⟨.bl _, H1, I1, by rw [r1.none_iff]; rfl, q1⟩)
def tB (t : TE) : TT := fun σ H Q => t σ H fun x H1 => ∃ c, x = .bl c ∧ Q c H1
theorem pe_cmp {op : CmpOp} {t : TE} (h : PC X op a b t) (h1 : behindInMarks op b = false := by first | exact Qg6 _ (by decide) (by decide) | rfl) : PE X (.Compare a [op] [b] pos) t := fun pins s σ H Q I hw => wpAny_Compare1 (h pins s σ H Q I hw) h1
theorem QaL {op : CmpOp} {t : TE} (h : PC X op a b t) (h1 : behindInMarks op b = false := by first | exact Qg6 _ (by decide) (by decide) | rfl) : PT X (.Compare a [op] [b] pos) (tB t) := by
 intro pins s σ H Q I hw
 refine wpAny_isTrue_Compare1 (thn (h pins s σ H _ I hw) fun v s1 h1 => thn h1 fun u s2 h2 => thn h2 fun c s3 ⟨x, H1, I1, r1, q1⟩ => ?_) h1
 obtain ⟨d, rfl, q⟩ := q1
 cases r1
 exact wpAny_truthy_bool ⟨H1, I1, q⟩
theorem Qch {e : Expr} {t : TE} (h : PE X e t) (he : ∀ whole, isTrue e X.env whole = (do let v ← whole; standAt e.pos; holding [v] (truthy v)) := by intro _; rfl) : PT X e (tB t) := by
 intro pins s σ H Q I hw
 refine isTrue_plain (thn (h pins s σ H _ I hw) fun v s1 ⟨x, H1, I1, r1, q1⟩ => ?_) (he _)
 obtain ⟨d, rfl, q⟩ := q1
 cases r1
 exact wpAny_truthy_bool ⟨H1, I1, q⟩
variable {tA tB' : TT} {QeI : List Expr}
def tAnd (t u : TT) : TT := fun σ H Q => t σ H fun c H1 => if c = true then u σ H1 Q else Q false H1
def tOr (t u : TT) : TT := fun σ H Q => t σ H fun c H1 => if c = true then Q true H1 else u σ H1 Q
def tNot (t : TT) : TT := fun σ H Q => t σ H fun c H1 => Q (!c) H1
theorem QgA (ha : PT X a tA) : PW X (.BoolOp .And [a] pos) tA := by
 intro wh pins s σ H Q I h
 refine isTrue_and (thn (ha pins s σ H Q I h) fun c s1 e => ?_)
 cases c with
 | true => exact isTrue_and_nil e
 | false => exact e
theorem Qec (ha : PT X a tA) : PW X (.BoolOp .Or [a] pos) tA := by
 intro wh pins s σ H Q I h
 refine isTrue_or (thn (ha pins s σ H Q I h) fun c s1 e => ?_)
 cases c with
 | false => exact isTrue_or_nil e
 | true => exact e
theorem QgZ (ha : PT X a tA) (hb : PW X (.BoolOp .And (b :: QeI) pos) tB') : PW X (.BoolOp .And (a :: b :: QeI) pos) (tAnd tA tB') := by
 intro wh pins s σ H Q I h
 refine isTrue_and (thn (ha pins s σ H _ I h) fun c s1 ⟨H1, I1, q1⟩ => ?_)
 cases c with
 | true => exact hb wh pins s1 σ H1 Q I1 q1
 | false => exact ⟨H1, I1, q1⟩
theorem Qfj (ha : PT X a tA) (hb : PW X (.BoolOp .Or (b :: QeI) pos) tB') : PW X (.BoolOp .Or (a :: b :: QeI) pos) (tOr tA tB') := by
 intro wh pins s σ H Q I h
 refine isTrue_or (thn (ha pins s σ H _ I h) fun c s1 ⟨H1, I1, q1⟩ => ?_)
 cases c with
 | true => exact ⟨H1, I1, q1⟩
 | false => exact hb wh pins s1 σ H1 Q I1 q1
theorem QfY (ha : PT X a tA) : PT X (.UnaryOp .Not a pos) (tNot tA) := by
 intro pins s σ H Q I h
 exact isTrue_not (ha pins s σ H (fun c H1 => Q (!c) H1) I h)
def tAndV (ta tb : TE) : TE := fun σ H Q => ta σ H fun x H1 => ∃ c, x = .bl c ∧ if c = true then tb σ H1 Q else Q (.bl false) H1
theorem Qj0 {op} {t : TE} (h : PE X a t) : PE X (.BoolOp op [a] pos) t := fun pins s σ H Q I hw => BoolOp_one (h pins s σ H Q I hw)
theorem Qj1 (ha : PE X a ta) (hb : PE X (.BoolOp .And (b :: QeI) pos) tb) : PE X (.BoolOp .And (a :: b :: QeI) pos) (tAndV ta tb) := by
 intro pins s σ H Q I h
 refine BoolOp_and (thn (ha pins s σ H _ I h) fun v s1 ⟨x, H1, I1, r1, q1⟩ => ?_)
 obtain ⟨c, rfl, q1⟩ := q1
 cases r1
 refine wpAny_truthy_bool ?_
 cases c with
 | true => exact hb pins s1 σ H1 Q I1 q1
 | false => exact ⟨.bl false, H1, I1, rfl, q1⟩
end
end L2
namespace L2
open PySem PySem.Spec PyProof.Rows
def SqL (K : Fg) (H : Hp) (a : Addr) (xs : List V) : Prop :=
 Rd H a (.lst xs) ∨
  ∃ (o : Obj) (its : Array Value) (n : Nat), K.lookup a = some o ∧ o.cls = .type "list" ∧ o.dict = none ∧ o.data = .seq its n ∧ its.size ≤ sizeLine ∧ Vals xs its.toList
def SqT (K : Fg) (H : Hp) (a : Addr) (xs : List V) : Prop :=
 Rd H a (.tup xs) ∨
  ∃ (o : Obj) (its : Array Value) (n : Nat), K.lookup a = some o ∧ o.cls = .type "tuple" ∧ o.data = .seq its n ∧ its.size ≤ sizeLine ∧ Vals xs its.toList
def absV : Value → Option V
 | .none => some .non
 | .bool b => some (.bl b)
 | .int i _ => some (.int i)
 | .str x _ => some (.str x)
 | .bytes b _ => some (.byt b)
 | .float b _ => some (.flt b)
 | .ref a => some (.ref a)
 | .type n => some (.ty n)
 | _ => none
theorem RelV.abs {x : V} {u : Value} (r : RelV x u) : absV u = some x := by
 cases x with
 | non => cases r; rfl
 | bl _ => cases r; rfl
 | int _ => obtain ⟨t, rfl⟩ := r; rfl
 | str _ => obtain ⟨t, rfl⟩ := r; rfl
 | byt _ => obtain ⟨t, rfl⟩ := r; rfl
 | flt _ => obtain ⟨t, rfl⟩ := r; rfl
 | ref _ => cases r; rfl
 | ty _ => cases r; rfl
theorem RelV.inj {x y : V} {u : Value} (r : RelV x u) (q : RelV y u) : x = y := Option.some.inj (r.abs.symm.trans q.abs)
theorem Vals.inj : ∀ {xs ys : List V} {us : List Value}, Vals xs us → Vals ys us → xs = ys
 | _, _, _, .nil, .nil => rfl
 | _, _, _, .cons r t, .cons r' t' => by rw [r.inj r', Vals.inj t t']
section
variable {X : Cx} {pins : Pn} {σ : St} {H : Hp} {s : Shared} {a : Addr} {xs ys : List V}
theorem SqL.of {K : Fg} (h : H a = some (.lst xs)) : SqL K H a xs := .inl (.inl h)
theorem SqT.of {K : Fg} (h : H a = some (.tup xs)) : SqT K H a xs := .inl (.inl h)
theorem Inv.list (I : Inv X pins σ H s) (h : SqL X.K H a xs) : ∃ its : List Value, Vals xs its ∧ PlainL s.heap a its.toArray ∧ xs.length ≤ sizeLine := by
 rcases h with h | ⟨o, its, n, hk, hc, hd, hs, hz, r⟩
 ·obtain ⟨z, its, n, r, e⟩ := h.ok I.hok
  exact ⟨its, r, ⟨_, n, e, rfl, rfl, rfl⟩, z⟩
 ·refine ⟨its.toList, r, ⟨o, n, I.kIn a o hk, hc, hd, by simpa using hs⟩, ?_⟩
  have e := r.length
  simp only [Array.length_toList] at e
  omega
theorem Inv.tuple (I : Inv X pins σ H s) (h : SqT X.K H a xs) : ∃ its : List Value, Vals xs its ∧ IsTup s.heap a its.toArray ∧ xs.length ≤ sizeLine := by
 rcases h with h | ⟨o, its, n, hk, hc, hs, hz, r⟩
 ·obtain ⟨z, its, r, p⟩ := h.ok I.hok
  exact ⟨its, r, p, z⟩
 ·refine ⟨its.toList, r, ⟨o, I.kIn a o hk, hc, n, by simpa using hs⟩, ?_⟩
  have e := r.length
  simp only [Array.length_toList] at e
  omega
theorem Inv.list_inj (I : Inv X pins σ H s) (h : SqL X.K H a xs) (h' : SqL X.K H a ys) : xs = ys := by
 obtain ⟨its, r, ⟨o, n, e, _, _, d⟩, _⟩ := I.list h
 obtain ⟨its', r', ⟨o', n', e', _, _, d'⟩, _⟩ := I.list h'
 rw [e] at e'; cases e'
 rw [d] at d'
 injection d' with d1 _
 have : its = its' := by simpa using congrArg Array.toList d1
 subst this
 exact r.inj r'
end
abbrev Cx.wish (X : Cx) (E : Value → Shared → Prop) : Cx := { X with xe := E }
abbrev Cx.nox (X : Cx) : Cx := X.wish fun _ _ => False
theorem Cx.Ok.wish {X : Cx} (ok : X.Ok) (E : Value → Shared → Prop) : (X.wish E).Ok :=
 ⟨ok.mod, ok.kind, ok.glob, ok.blt, ok.above, ok.inj, ok.has, ok.cab, ok.hd, ok.frames, ok.stk, ok.exf, ok.bs, ok.bsz, ok.noex, ok.exfs, ok.funs, ok.frf⟩
theorem Cx.Ok.unwish {X : Cx} {E : Value → Shared → Prop} (ok : (X.wish E).Ok) : X.Ok :=
 ⟨ok.mod, ok.kind, ok.glob, ok.blt, ok.above, ok.inj, ok.has, ok.cab, ok.hd, ok.frames, ok.stk, ok.exf, ok.bs, ok.bsz, ok.noex, ok.exfs, ok.funs, ok.frf⟩
section
variable {X : Cx} {pins : Pn} {σ : St} {H : Hp} {s : Shared} {E : Value → Shared → Prop}
theorem Inv.wish (I : Inv X pins σ H s) (E : Value → Shared → Prop) : Inv (X.wish E) pins σ H s := ⟨I.ok.wish E, I.os, I.bare, I.base, I.loc, I.cell, I.free, I.freeC, I.pin, I.hok, I.len⟩
theorem Inv.unwish (I : Inv (X.wish E) pins σ H s) : Inv X pins σ H s := ⟨I.ok.unwish, I.os, I.bare, I.base, I.loc, I.cell, I.free, I.freeC, I.pin, I.hok, I.len⟩
theorem SP.unwish {D : Qi7} {f : Flow} {s' : Shared} (h : SP (X.wish E) pins D f s') : SP X pins D f s' := by
 cases f with
 | next => obtain ⟨σ', H', I, q⟩ := h; exact ⟨σ', H', I.unwish, q⟩
 | brk => obtain ⟨σ', H', I, q⟩ := h; exact ⟨σ', H', I.unwish, q⟩
 | cont => obtain ⟨σ', H', I, q⟩ := h; exact ⟨σ', H', I.unwish, q⟩
 | ret u => obtain ⟨v, σ', H', I, r, q⟩ := h; exact ⟨v, σ', H', I.unwish, r, q⟩
theorem PSs.nox {st : List Stmt} {t : TS} (h : PSs X.nox st t) : PSs X st t := fun pins s σ H D I hw =>
 wpAny_mono (h pins s σ H D (I.wish _) hw) (fun _ _ q => q.unwish) fun _ _ z => False.elim z
end
section
variable {X : Cx} {st : Stmt} {QeI : List Stmt} {t u : TS} {e : Expr} {te : TE} {pos : Pos}
def tNext : TS := fun D σ H => D.nx σ H
def tSeq (t u : TS) : TS := fun D σ H => t { D with nx := u D } σ H
theorem Qn : PSs X [] tNext := fun _ _ σ H _ I h => wpAny_execs_nil ⟨σ, H, I, h⟩
theorem Qc (h1 : PS X st t) (h2 : PSs X QeI u) : PSs X (st :: QeI) (tSeq t u) := by
 intro pins s σ H D I h
 refine wpAny_execs_cons (thn (h1 pins s σ H { D with nx := u D } I h) fun f s1 q => ?_)
 cases f with
 | next =>
  obtain ⟨σ', H', I', q⟩ := q
  exact h2 pins s1 σ' H' D I' q
 | ret v => exact q
 | brk => exact q
 | cont => exact q
theorem Qh (h1 : PS X st t) : PSs X [st] t := by
 intro pins s σ H D I h
 refine wpAny_execs_cons (thn (h1 pins s σ H D I h) fun f s1 q => ?_)
 cases f with
 | next => exact wpAny_execs_nil q
 | ret v => exact q
 | brk => exact q
 | cont => exact q
theorem Inv.quiet {pins : Pn} {σ : St} {H : Hp} {s : Shared} (I : Inv X pins σ H s) : interactive X.env = false := by simp [interactive, I.ok.kind]
def tDrop (te : TE) : TS := fun D σ H => te σ H fun _ H1 => D.nx σ H1
theorem Qk (he : PE X e te) (hs : swapsWith e none pos.line X.env = pure false := by rfl) : PS X (.Expr e pos) (tDrop te) := by
 intro pins s σ H D I h
 exact wpAny_Expr_any (thn (he pins s σ H _ I h) fun v s1 ⟨x, H1, I1, r1, q1⟩ => ⟨σ, H1, I1, q1⟩) I.quiet hs
def tRet (te : TE) : TS := fun D σ H => te σ H D.rt
theorem Qs (he : PE X e te) : PS X (.Return (some e) pos) (tRet te) := by
 intro pins s σ H D I h
 exact wpAny_Return_some (thn (he pins s σ H _ I h) fun v s1 ⟨x, H1, I1, r1, q1⟩ => ⟨x, σ, H1, I1, r1, q1⟩)
def tIfS (c : TT) (t u : TS) : TS := fun D σ H => c σ H fun b H1 => if b = true then t D σ H1 else u D σ H1
theorem QZ {c : Expr} {a b : List Stmt} {tc : TT} (hc : PT X c tc) (ha : PSs X a t) (hb : PSs X b u) : PS X (.If c a b pos) (tIfS tc t u) := by
 intro pins s σ H D I h
 refine wpAny_If (thn (hc pins s σ H _ I h) fun d s1 ⟨H1, I1, q1⟩ => ?_)
 cases d with
 | true => exact ha pins s1 σ H1 D I1 q1
 | false => exact hb pins s1 σ H1 D I1 q1
def QjP : TS := fun _ _ _ => False
theorem Qbg : PS X st QjP := fun _ _ _ _ _ _ h => h.elim
theorem QfZ {sts : List Stmt} : PSs X sts QjP := fun _ _ _ _ _ _ h => h.elim
end
abbrev TG := V → St → Hp → (St → Hp → Prop) → Prop
abbrev TGs := List V → St → Hp → (St → Hp → Prop) → Prop
def PG (X : Cx) (target : Expr) (t : TG) : Prop :=
 ∀ (pins : Pn) (s : Shared) (σ : St) (H : Hp) (v : V) (u : Value) (Q : St → Hp → Prop), Inv X pins σ H s → RelV v u → t v σ H Q →
  wpAny (model X.prog X.w) X.A (assign target X.env u) (fun _ s' => ∃ σ' H', Inv X pins σ' H' s' ∧ Q σ' H') X.xe s
def PGs (X : Cx) (ts : List Expr) (t : TGs) : Prop :=
 ∀ (pins : Pn) (s : Shared) (σ : St) (H : Hp) (vs : List V) (us : List Value) (Q : St → Hp → Prop), Inv X pins σ H s → Vals vs us → t vs σ H Q →
  wpAny (model X.prog X.w) X.A (assignInOrder ((assignEach ts X.env).map (·.2)) us) (fun _ s' => ∃ σ' H', Inv X pins σ' H' s' ∧ Q σ' H') X.xe s
abbrev TSet := V → V → V → Hp → (Hp → Prop) → Prop
def PSet (X : Cx) (t : TSet) : Prop :=
 ∀ (pins : Pn) (s : Shared) (σ : St) (H : Hp) (o i v : V) (ov iv u : Value) (Q : Hp → Prop), Inv X pins σ H s → RelV o ov → RelV i iv → RelV v u → t o i v H Q →
  wpAny (model X.prog X.w) X.A (setItem ov iv u) (fun _ s' => ∃ H', Inv X pins σ H' s' ∧ Q H') X.xe s
abbrev TIp := V → V → Hp → VK → Prop
def PIp (X : Cx) (op : Operator) (t : TIp) : Prop :=
 ∀ (pins : Pn) (s : Shared) (σ : St) (H : Hp) (x y : V) (v u : Value) (Q : VK), Inv X pins σ H s → RelV x v → RelV y u → t x y H Q →
  wpAny (model X.prog X.w) X.A (inplaceOp op v u) (EP X pins σ Q) X.xe s
section
variable {X : Cx} {pos : Pos}
def QiD (i : Nat) : TG := fun v σ H Q => Q (σ.set i (some v)) H
theorem QS {i : Nat} {x : Str} (hN : X.N.Nodup) (hi : X.N[i]? = some x) (hx : Loc X.env.scope x) (hf : X.fn x = true ∨ X.env.scope.names.lookup x = some .local := by first | exact .inl rfl | exact .inr rfl | assumption) : PG X (.Name x pos) (QiD i) := by
 intro pins s σ H v u Q I r h
 exact wpAny_assign_Name (Qcx I hN hi hx r (fun s' I' => ⟨_, H, I', h⟩) hf)
def gNil : TGs := fun vs σ H Q => vs = [] ∧ Q σ H
def gCons (t : TG) (u : TGs) : TGs := fun vs σ H Q => ∃ v r, vs = v :: r ∧ t v σ H fun σ' H' => u r σ' H' Q
theorem QkA : PGs X [] gNil := by
 intro pins s σ H vs us Q I r h
 obtain ⟨e, h⟩ := h
 subst e
 cases r
 exact assignInOrder_nil ⟨σ, H, I, h⟩
theorem Qg2 {e : Expr} {es : List Expr} {t : TG} {u : TGs} (h1 : PG X e t) (h2 : PGs X es u)
  (hs : (assignEach (e :: es) X.env).map (·.2) = assign e X.env :: (assignEach es X.env).map (·.2) := by rfl) : PGs X (e :: es) (gCons t u) := by
 intro pins s σ H vs us Q I r h
 obtain ⟨v, vr, e1, h⟩ := h
 subst e1
 cases r with
 | cons r rr =>
  rw [hs]
  refine assignInOrder_cons (thn (h1 pins s σ H _ _ _ I r h) fun _ s1 ⟨σ1, H1, I1, q1⟩ => ?_)
  exact h2 pins s1 σ1 H1 _ _ Q I1 rr q1
def gTup (K : Fg) (n : Nat) (t : TGs) : TG := fun v σ H Q => ∃ a xs, v = .ref a ∧ SqT K H a xs ∧ xs.length = n ∧ t xs σ H Q
theorem pg_tup {es : List Expr} {k : Nat} {t : TGs} {n : Nat} (hc : X.calm = true) (h : PGs X es t)
  (hn : (assignEach es X.env).length = n := by rfl) (hst : (assignEach es X.env).findIdx? (·.1) = none := by rfl) : PG X (.Tuple es k pos) (gTup X.K n t) := by
 intro pins s σ H v u Q I r hw
 obtain ⟨a, xs, e1, hq, hl, hw⟩ := hw
 subst e1
 cases r
 obtain ⟨its, rv, ht, hz⟩ := I.tuple hq
 refine assign_Tuple_tuple (I.ok.hd hc) ht (by simp [hn, ← hl, rv.length]) hst fun h' hx => ?_
 have I1 : Inv X pins σ H { s with heap := h' } := I.kept (t' := s.toks) fun b o e => hx b o (Nat.ne_of_lt (Heap.lt_size e)) e
 exact h pins _ σ H xs _ Q I1 (by simpa using rv) hw
def gSub (to ti : TE) (t : TSet) : TG := fun v σ H Q => to σ H fun o H1 => ti σ H1 fun i H2 => t o i v H2 fun H3 => Q σ H3
theorem Qg3 {o i : Expr} {to ti : TE} {t : TSet} (ho : PE X o to) (hi : PE X i ti) (hs : PSet X t)
  (ha : ∀ v, assign (.Subscript o i pos) X.env v = (do
   let ov ← holding [v] (eval o X.env)
   let iv ← holding [v, ov] (eval i X.env)
   standAt pos
   holding [v, ov, iv] (setItem ov iv v)
   release [v, ov, iv] []) := by intro _; rfl) : PG X (.Subscript o i pos) (gSub to ti t) := by
 intro pins s σ H v u Q I r h
 rw [ha]
 refine wpAny_bind (wpAny_holding (thn (ho pins s σ H _ I h) fun ov s1 ⟨x, H1, I1, r1, q1⟩ => ?_))
 refine wpAny_bind (wpAny_holding (thn (hi pins s1 σ H1 _ I1 q1) fun iv s2 ⟨y, H2, I2, r2, q2⟩ => ?_))
 refine wpAny_bind (wpAny_standAt (wpAny_bind (wpAny_holding (thn (hs pins s2 σ H2 x y v ov iv u _ I2 r1 r2 r q2) fun _ s3 ⟨H3, I3, q3⟩ => ?_))))
 exact wpAny_release ⟨σ, H3, I3, q3⟩
def tAsg (te : TE) (g : TG) : TS := fun D σ H => te σ H fun x H1 => g x σ H1 D.nx
theorem Qg1 {tg e : Expr} {te : TE} {g : TG} (he : PE X e te) (hg : PG X tg g) (hs : swapsWithSole [tg] e pos.line X.env = pure false := by rfl) (hw : swappedStores [tg] e X.env = pure none := by rfl)
  (h1 : (assignEach [tg] X.env).map (·.2) = [assign tg X.env] := by rfl) : PS X (.Assign [tg] e pos) (tAsg te g) := by
 intro pins s σ H D I h
 refine wpAny_Assign_stores (thn (he pins s σ H _ I h) fun v s1 ⟨x, H1, I1, r1, q1⟩ => ?_) hs hw
 rw [h1]
 exact thn (hg pins s1 σ H1 x v _ I1 r1 q1) fun _ s2 q => q
theorem Qq {i : Nat} {x : Str} {e : Expr} {te : TE} {pos' : Pos} (hN : X.N.Nodup) (hi : X.N[i]? = some x) (hx : Loc X.env.scope x) (he : PE X e te) (hs : swapsWith e (some (.Name x pos')) pos.line X.env = pure false := by rfl) (hf : X.fn x = true ∨ X.env.scope.names.lookup x = some .local := by first | exact .inl rfl | exact .inr rfl | assumption) :
  PS X (.Assign [.Name x pos'] e pos) (tAsg te (QiD i)) := by
 intro pins s σ H D I h
 refine wpAny_Assign_Name (thn (he pins s σ H _ I h) fun v s1 ⟨y, H1, I1, r1, q1⟩ => ?_) hs
 exact Qcx I1 hN hi hx r1 (fun s2 I2 => ⟨_, H1, I2, q1⟩) hf
def tAug (i : Nat) (te : TE) (ti : TIp) : TS := fun D σ H => ∃ x, σ[i]? = some (some x) ∧ te σ H fun y H1 => ti x y H1 fun z H2 => D.nx (σ.set i (some z)) H2
theorem ps_aug {i : Nat} {x : Str} {e : Expr} {te : TE} {op : Operator} {ti : TIp} {pos' : Pos} (hN : X.N.Nodup) (hi : X.N[i]? = some x) (hx : Loc X.env.scope x) (he : PE X e te) (ho : PIp X op ti) (hf : X.fn x = true ∨ X.env.scope.names.lookup x = some .local := by first | exact .inl rfl | exact .inr rfl | assumption) :
  PS X (.AugAssign (.Name x pos') op e pos) (tAug i te ti) := by
 intro pins s σ H D I h
 obtain ⟨v, e1, h⟩ := h
 obtain ⟨m, hn, hl⟩ := I.loc
 have vis : Vis X.env.scope x := by rcases hx with k | k; exact .inl k; exact .inr (.inl k)
 obtain ⟨u, r, l⟩ := hl i x v hi e1 vis
 refine wpAny_AugAssign_Name ?_
 have go : wpAny (model X.prog X.w) X.A (eval e X.env) (fun w s₂ => wpAny (model X.prog X.w) X.A (inplaceOp op u w) (fun r s₃ => wpAny (model X.prog X.w) X.A (storeName X.env x r) (fun _ => SP X pins D .next) X.xe s₃) X.xe s₂) X.xe s := by
  refine thn (he pins s σ H _ I h) fun w s1 ⟨y, H1, I1, r1, q1⟩ => ?_
  refine thn (ho pins s1 σ H1 v y u w _ I1 r r1 q1) fun z s2 ⟨zv, H2, I2, r2, q2⟩ => ?_
  exact Qcx I2 hN hi hx r2 (fun s3 I3 => ⟨_, H2, I3, q2⟩) hf
 rcases l with ⟨hk, hm⟩ | ⟨hk, c, hc, hcell⟩
 ·exact wpAny_loadName_local I.ok.kind hk hn hm go
 ·rcases hk with hk | hk
  ·exact wpAny_loadName_cell I.ok.kind hk hc hcell go
  ·rcases hx with k | k
   ·have : X.env.scope.names.lookup x = some .free := hk
    rw [k] at this; cases this
   ·have : X.env.scope.names.lookup x = some .free := hk
    rw [k] at this; cases this
def ipI (f : Int → Int → Int) : TIp := fun x y H Q => ∃ i j, x = .int i ∧ y = .int j ∧ Q (.int (f i j)) H
theorem ip_add : PIp X .Add (ipI fun i j => i + j) := by
 intro pins s σ H x y v u Q I r1 r2 h
 obtain ⟨i, j, e1, e2, q⟩ := h
 subst e1; subst e2
 obtain ⟨t, rfl⟩ := r1
 obtain ⟨t', rfl⟩ := r2
 exact iadd_int ⟨.int _, H, I.tok _, ⟨_, rfl⟩, q⟩
end
section
variable {X : Cx} {pos : Pos}
def QjO (c : TT) (tb : TS) : TS := fun D σ H => ∃ W : Nat → St → Hp → Prop, (∃ m, W m σ H) ∧ ∀ m σ H, W m σ H →
 c σ H fun b H1 => if b = true then ∃ N : St → Hp → Prop, (∀ σ' H', N σ' H' → ∃ m', m' < m ∧ W m' σ' H') ∧ tb { D with nx := N, ct := N, bk := D.nx } σ H1 else D.nx σ H1
theorem Qg0 {c : Expr} {body : List Stmt} {tc : TT} {tb : TS} (hp : PassesOwn (model X.prog X.w) X.A X.env X.xe) (hc : PT X c tc) (hb : PSs X body tb) : PS X (.While c body [] pos) (QjO tc tb) := by
 intro pins s σ H D I h
 obtain ⟨W, ⟨m0, w0⟩, turn⟩ := h
 refine wpAny_While (codeAny_whileLoop (fun n s' => ∃ σ' H', Inv X pins σ' H' s' ∧ W n σ' H') ?_ m0 ⟨σ, H, I, w0⟩)
 rintro n s1 ⟨σ1, H1, I1, w1⟩
 refine wpAny_passesOwn hp (thn (hc pins s1 σ1 H1 _ I1 (turn n σ1 H1 w1)) fun b s2 ⟨H2, I2, q2⟩ => ?_)
 cases b with
 | true =>
  obtain ⟨N, hN, q2⟩ := q2
  rw [if_pos rfl]
  refine wpAny_passesOwn hp (thn (hb pins s2 σ1 H2 _ I2 q2) fun f s3 q3 => ?_)
  cases f with
  | next =>
   obtain ⟨σ3, H3, I3, n3⟩ := q3
   obtain ⟨m', hm, w3⟩ := hN σ3 H3 n3
   exact ⟨m', hm, σ3, H3, I3, w3⟩
  | cont =>
   obtain ⟨σ3, H3, I3, n3⟩ := q3
   obtain ⟨m', hm, w3⟩ := hN σ3 H3 n3
   exact ⟨m', hm, σ3, H3, I3, w3⟩
  | brk => exact q3
  | ret v => exact q3
 | false =>
  rw [if_neg Bool.false_ne_true]
  exact wpAny_execs_nil ⟨σ1, H2, I2, q2⟩
end
structure It where
 go : Nat → Hp → Prop
 yld : Nat → Hp → V → Hp → Prop
 stop : Nat → Hp → Prop
def Qhf (X : Cx) (pins : Pn) (H : Hp) (b : Addr) : Prop :=
 H b = none ∧ b ≠ X.env.locals ∧ b ∉ X.fs ∧ (b ∈ X.ex ∨ X.s₀.heap.objs.size ≤ b) ∧ (∀ x c, X.env.cells.lookup x = some c → c ≠ b) ∧ ∀ p ∈ X.pn ++ pins, p.1 ≠ b
theorem Inv.fpOk {X : Cx} {pins : Pn} {σ : St} {H H' : Hp} {s : Shared} {b : Addr} (I : Inv X pins σ H s) (hb : s.heap.objs.size ≤ b) (hn : H' b = none) : Qhf X pins H' b := by
 refine ⟨hn, Nat.ne_of_gt (Nat.lt_of_lt_of_le I.lt hb), I.nofs hb, .inr (Nat.le_trans I.sz hb), fun x c e z => ?_, fun p hp z => ?_⟩
 ·obtain ⟨v, q⟩ := I.cell x c e
  exact absurd (Nat.lt_of_lt_of_le q.lt (by rw [z]; exact hb)) (Nat.lt_irrefl _)
 ·exact absurd (Nat.lt_of_lt_of_le (Heap.lt_size (I.pin p hp).1) (by rw [z]; exact hb)) (Nat.lt_irrefl _)
structure QkU (P : Program) (w : World) (K : Fg) (tg : Expr) (J : It) (fp : List Addr) (it : Addr) (tn : Nat → Heap → Prop) : Prop where
 mem : it ∈ fp
 obj : ∀ i h, tn i h → ∀ b ∈ fp, ∃ o, h.get? b = some o ∧ ∀ v, o.data ≠ .cell v
 keep : ∀ i h h', tn i h → (∀ b ∈ fp, ∀ o, h.get? b = some o → h'.get? b = some o) → tn i h'
 item : ∀ (X : Cx), X.prog = P → X.w = w → X.K = K → X.calm = true → ∀ (i : Nat) (pins : Pn) (s : Shared) (σ : St) (H : Hp) (E : Value → Shared → Prop), Inv X pins σ H s → (∀ b ∈ fp, Qhf X pins H b) → tn i s.heap → J.go i H →
  wpAny (model P w) X.A (pyNext (.ref it)) (fun r s1 => ∃ u, r = some u ∧
   wpAny (model P w) X.A (letOwnedTupleGo tg (.ref it) u) (fun _ s2 => ∃ x H', Inv X pins σ H' s2 ∧ RelV x u ∧ J.yld i H x H' ∧ tn (i + 1) s2.heap ∧ ∀ b ∈ fp, H' b = none) E s1) E s
 done : ∀ (X : Cx), X.prog = P → X.w = w → X.K = K → X.calm = true → ∀ (i : Nat) (pins : Pn) (s : Shared) (σ : St) (H : Hp) (E : Value → Shared → Prop), Inv X pins σ H s → (∀ b ∈ fp, Qhf X pins H b) → tn i s.heap → J.stop i H →
  wpAny (model P w) X.A (pyNext (.ref it)) (fun r s1 => r = none ∧ Inv X pins σ H s1) E s
 self : ∀ (A : Around) (i : Nat) (s : Shared) (Q : Value → Shared → Prop) (E : Value → Shared → Prop), tn i s.heap → Q (.ref it) s → wpAny (model P w) A (pyIter (.ref it)) Q E s
abbrev TI := St → Hp → (It → Hp → Prop) → Prop
def PIE (X : Cx) (pins : Pn) (σ : St) (tg : Expr) (R : It → Hp → Prop) (itv : Value) (s2 : Shared) : Prop :=
 ∃ (it : Addr) (fp : List Addr) (tn : Nat → Heap → Prop) (J : It) (H' : Hp), itv = .ref it ∧ Inv X pins σ H' s2 ∧ QkU X.prog X.w X.K tg J fp it tn ∧ tn 0 s2.heap ∧ (∀ b ∈ fp, Qhf X pins H' b) ∧ R J H'
def PI (X : Cx) (tg iter : Expr) (wi : TI) : Prop :=
 ∀ (pins : Pn) (s : Shared) (σ : St) (H : Hp) (R : It → Hp → Prop), Inv X pins σ H s → wi σ H R →
  wpAny (model X.prog X.w) X.A (eval iter X.env) (fun v s1 => wpAny (model X.prog X.w) X.A (pyIter v) (PIE X pins σ tg R) X.xe s1) X.xe s
theorem go_of {M : Model} {A : Around} {E : Value → Shared → Prop} {s : Shared} {tg : Expr} {it : Addr} {u : Value} {o : Obj} {n : String} {vs : Array Value} {Q : Unit → Shared → Prop} (ho : s.heap.get? it = some o) (hc : o.cls = .type n) (hd : o.data = .fields vs)
    (hn : ["enumerate", "zip", "dict_itemiterator", "dict_reverseitemiterator", "odict_iterator", "itertools.zip_longest", "itertools.pairwise"].contains n = false) (hQ : Q () s) : wpAny M A (letOwnedTupleGo tg (.ref it) u) Q E s := by
  unfold letOwnedTupleGo
  cases tg <;> first
    | exact wpAny_pure hQ
    | (cases u <;> first
        | exact wpAny_pure hQ
        | (refine wpAny_bind (wpAny_load ho ?_)
           rw [hc, hd]
           show wpAny M A (if (["enumerate", "zip", "dict_itemiterator", "dict_reverseitemiterator", "odict_iterator", "itertools.zip_longest", "itertools.pairwise"].contains n && vs[0]? == some (rawInt _)) = true then _ else _) Q E s
           rw [if_neg (by intro h; rw [hn, Bool.false_and] at h; cases h)]
           exact wpAny_pure hQ))
def Itl (K : Fg) (a : Addr) : It :=
 ⟨fun i H => ∃ xs x, SqL K H a xs ∧ xs[i]? = some x, fun i H x H' => H' = H ∧ ∀ xs, SqL K H a xs → xs[i]? = some x, fun i H => ∃ xs, SqL K H a xs ∧ xs.length ≤ i⟩
def Itr (lo : Int) (n : Nat) : It := ⟨fun i _ => i < n, fun i H x H' => H' = H ∧ x = .int (lo + i), fun i _ => n ≤ i⟩
theorem QhD {P : Program} {w : World} {K : Fg} {tg : Expr} (a it : Addr) : QkU P w K tg (Itl K a) [it] it (fun i h => h.IsListIter it a i) where
 mem := by simp
 obj := fun i h st b hb => by
  have e : b = it := by simpa using hb
  subst e
  obtain ⟨o, e, c, d⟩ := st
  exact ⟨o, e, fun v z => by rw [d] at z; cases z⟩
 keep := fun i h h' st k => st.at fun o e => k it (by simp) o e
 item := by
  intro X hP hw hK hc i pins s σ H E I hf st hg
  subst hP hw hK
  obtain ⟨xs, x, hq, hx⟩ := hg
  obtain ⟨its, rv, p, hz⟩ := I.list hq
  obtain ⟨u, hu, ru⟩ := rv.get hx
  obtain ⟨f0, f1, f2, f3, f4, f5⟩ := hf it (by simp)
  refine wpAny_pyNext_list_item st p.isList (x := u) (by simpa using hu) fun h' st' sb => ?_
  have I1 : Inv X pins σ H { s with heap := h' } := I.turned (t' := s.toks) (fun b o hb e => (sb.2 b hb).trans e) f0 f1 f3 f4 f5
  obtain ⟨o, e, c, d⟩ := id st'
  exact ⟨u, rfl, go_of (s := { s with heap := h' }) e c d (by decide) ⟨x, H, I1, ru, ⟨rfl, fun ys hy => by rw [I.list_inj hy hq]; exact hx⟩, st', fun b hb => (hf b hb).1⟩⟩
 done := by
  intro X hP hw hK hc i pins s σ H E I hf st hg
  subst hP hw hK
  obtain ⟨xs, hq, hx⟩ := hg
  obtain ⟨its, rv, p, hz⟩ := I.list hq
  obtain ⟨f0, f1, f2, f3, f4, f5⟩ := hf it (by simp)
  have hl := rv.length
  exact wpAny_pyNext_list_end (I.ok.hd hc) st p.isList (by simp; omega) fun h' eb => ⟨rfl, I.turned (t' := s.toks) (fun b o hb e => eb b o hb e) f0 f1 f3 f4 f5⟩
 self := fun _ _ _ _ _ st h => wpAny_pyIter_listiter st h
theorem Qhg {P : Program} {w : World} {K : Fg} {tg : Expr} (it : Addr) (lo : Int) (n : Nat) : QkU P w K tg (Itr lo n) [it] it (fun i h => IsRangeIter h it (lo + (i : Nat) * 1) ((n : Int) - (i : Nat)) 1) where
 mem := by simp
 obj := fun i h st b hb => by
  have e : b = it := by simpa using hb
  subst e
  exact ⟨_, st, fun v z => by
   have z' : Data.fields _ = Data.cell v := z
   cases z'⟩
 keep := fun i h h' st k => k it (by simp) _ st
 item := by
  intro X hP hw hK hc i pins s σ H E I hf st hg
  subst hP hw hK
  obtain ⟨f0, f1, f2, f3, f4, f5⟩ := hf it (by simp)
  have W := Walks.range (prog := X.prog) (w := X.w) (I.ok.hd hc) it lo 1 n
  refine W.item i s _ _ hg st fun v h' tk hv st' kk => ?_
  obtain ⟨t, rfl⟩ := hv
  have I1 : Inv X pins σ H { s with heap := h', toks := tk } := I.turned (fun b o hb e => kk b o (by simpa using hb) e) f0 f1 f3 f4 f5
  refine ⟨_, rfl, go_of (s := { s with heap := h', toks := tk }) (n := "range_iterator") st' rfl rfl (by decide) ⟨.int (lo + i), H, I1, ⟨t, ?_⟩, ⟨rfl, rfl⟩, st', fun b hb => (hf b hb).1⟩⟩
  rw [Int.mul_one]
 done := by
  intro X hP hw hK hc i pins s σ H E I hf st hg
  subst hP hw hK
  obtain ⟨f0, f1, f2, f3, f4, f5⟩ := hf it (by simp)
  exact wpAny_pyNext_range_end (I.ok.hd hc) st (by have : n ≤ i := hg; omega) fun h' eb => ⟨rfl, I.turned (t' := s.toks) (fun b o hb e => eb b o hb e) f0 f1 f3 f4 f5⟩
 self := fun _ _ _ _ _ st h => wpAny_pyIter_rangeiter st h
end L2
namespace L2
open PySem PySem.Spec PyProof.Rows
section
variable {X : Cx} {tg : Expr}
def iList (K : Fg) (tl : TE) : TI := fun σ H R => tl σ H fun x H1 => ∃ a, x = .ref a ∧ (∃ xs, SqL K H1 a xs) ∧ R (Itl K a) H1
theorem QR {l : Expr} {tl : TE} (hl : PE X l tl) : PI X tg l (iList X.K tl) := by
 intro pins s σ H R I h
 refine thn (hl pins s σ H _ I h) fun v s1 ⟨x, H1, I1, r1, q1⟩ => ?_
 obtain ⟨a, e, ⟨xs, hq⟩, q⟩ := q1
 subst e
 cases r1
 obtain ⟨its, rv, p, hz⟩ := I1.list hq
 refine wpAny_pyIter_list p.isList ?_
 refine ⟨s1.heap.objs.size, [s1.heap.objs.size], _, _, H1, rfl, I1.kept (t' := s1.toks) fun b o e => Heap.get?_push_of_some _ e, QhD a _, ⟨_, Heap.get?_push_size _ rfl, rfl, rfl⟩, fun b hb => ?_, q⟩
 have e : b = s1.heap.objs.size := by simpa using hb
 subst e
 exact I1.fpOk (Nat.le_refl _) (I1.hok.fresh (Nat.le_refl _))
theorem QgY {pins : Pn} {σ : St} {H : Hp} {s : Shared} {R : It → Hp → Prop} {E : Value → Shared → Prop} {lo hi : Int} {t u v : Tok} {tk : Nat} (I : Inv X pins σ H s) (h1 : -(2 ^ 62) ≤ lo) (h2 : lo < 2 ^ 62) (h3 : -(2 ^ 62) ≤ hi) (h4 : hi < 2 ^ 62)
  (q : R (Itr lo (hi - lo).toNat) H) : wpAny (model X.prog X.w) X.A (pyIter (.ref s.heap.objs.size)) (PIE X pins σ tg R) E { s with heap := s.heap.push { cls := .type "range", data := .fields #[.int lo t, .int hi u, .int 1 v] }, toks := tk } := by
 refine wpAny_pyIter_range (IsRange.new ..) (small_one h1 h2 h3 h4) ?_
 have I1 : Inv X pins σ H { s with heap := s.heap.push { cls := .type "range", data := .fields #[.int lo t, .int hi u, .int 1 v] }, toks := tk } := I.kept fun b o e => Heap.get?_push_of_some _ e
 refine ⟨(s.heap.push { cls := .type "range", data := .fields #[.int lo t, .int hi u, .int 1 v] }).objs.size, [(s.heap.push { cls := .type "range", data := .fields #[.int lo t, .int hi u, .int 1 v] }).objs.size], _, _, H, rfl,
  I1.kept (t' := tk) fun b o e => Heap.get?_push_of_some _ e, Qhg _ lo (hi - lo).toNat, ?_, fun b hb => ?_, q⟩
 ·have e1 : lo + ((0 : Nat) : Int) * 1 = lo := by simp
  have e2 : (((hi - lo).toNat : Nat) : Int) - ((0 : Nat) : Int) = Builtin.Range.rangeSize lo hi 1 := by rw [rangeSize_one]; split <;> omega
  show IsRangeIter _ _ (lo + ((0 : Nat) : Int) * 1) ((((hi - lo).toNat : Nat) : Int) - ((0 : Nat) : Int)) 1
  rw [e1, e2]
  exact Heap.get?_push_size _ rfl
 ·have e : b = (s.heap.push { cls := .type "range", data := .fields #[.int lo t, .int hi u, .int 1 v] }).objs.size := by simpa using hb
  subst e
  exact I1.fpOk (Nat.le_refl _) (I1.hok.fresh (Nat.le_refl _))
def iRng1 (ta : TA) : TI := fun σ H R => ta σ H fun vs H1 => ∃ j : Int, vs = [.int j] ∧ -(2 ^ 62) ≤ j ∧ j < 2 ^ 62 ∧ R (Itr 0 j.toNat) H1
def iRng2 (ta : TA) : TI := fun σ H R => ta σ H fun vs H1 => ∃ i j : Int, vs = [.int i, .int j] ∧ (-(2 ^ 62) ≤ i ∧ i < 2 ^ 62 ∧ -(2 ^ 62) ≤ j ∧ j < 2 ^ 62) ∧ R (Itr i (j - i).toNat) H1
theorem Zb {a : Expr} {ta : TA} {p pos : Pos} (hg : Gl X "range") (hm : X.mg "range" = none) (ha : PA X [a] ta) (hs : starEach [a] X.env = [(false, eval a X.env)] := by rfl) : PI X tg (.Call (.Name "range" p) [a] [] pos) (iRng1 ta) := by
 intro pins s σ H R I h
 refine Call_ (Qex I hg hm boot_range (PyProof.Rows.callWith_type1 (thn (ha pos pins s σ H _ I h) fun us s1 ⟨vs, H1, I1, r1, q1⟩ => ?_) hs rfl))
 obtain ⟨j, e, q1, q2, q⟩ := q1
 subst e
 cases r1 with
 | cons r rr =>
  cases rr
  obtain ⟨t, rfl⟩ := r
  exact call_range_1 (QgY I1 (by omega) (by omega) q1 q2 (by simpa using q))
theorem Qia {a b : Expr} {ta : TA} {p pos : Pos} (hg : Gl X "range") (hm : X.mg "range" = none) (ha : PA X [a, b] ta) (hs : starEach [a, b] X.env = [(false, eval a X.env), (false, eval b X.env)] := by rfl) (hs2 : starEach [b] X.env = [(false, eval b X.env)] := by rfl) :
  PI X tg (.Call (.Name "range" p) [a, b] [] pos) (iRng2 ta) := by
 intro pins s σ H R I h
 refine Call_ (Qex I hg hm boot_range (PyProof.Rows.callWith_type1 (thn (ha pos pins s σ H _ I h) fun us s1 ⟨vs, H1, I1, r1, q1⟩ => ?_) (by rw [hs, hs2]) (by rw [hs2]; rfl)))
 obtain ⟨i, j, e, ⟨q1, q2, q3, q4⟩, q⟩ := q1
 subst e
 cases r1 with
 | cons r rr =>
  cases rr with
  | cons r' rr =>
   cases rr
   obtain ⟨t, rfl⟩ := r
   obtain ⟨t', rfl⟩ := r'
   exact call_range_2 (QgY I1 q1 q2 q3 q4 q)
def tFor (wi : TI) (g : TG) (tb : TS) : TS := fun D σ H => wi σ H fun J H1 => ∃ W : Nat → Nat → St → Hp → Prop, (∃ m, W 0 m σ H1) ∧ ∀ i m σ H, W i m σ H →
 (J.stop i H ∧ D.nx σ H) ∨ (J.go i H ∧ ∃ N : St → Hp → Prop, (∀ σ' H', N σ' H' → ∃ m', m' < m ∧ W (i + 1) m' σ' H') ∧ ∀ x H', J.yld i H x H' → g x σ H' fun σ2 H2 => tb { D with nx := N, ct := N, bk := D.nx } σ2 H2)
def QeX (fp : List Addr) (h : Heap) : Pn := fp.filterMap fun b => (h.get? b).map fun o => (b, o)
theorem Qb2 {fp : List Addr} {h : Heap} {b : Addr} {o : Obj} (hb : b ∈ fp) (e : h.get? b = some o) : (b, o) ∈ QeX fp h := List.mem_filterMap.mpr ⟨b, hb, by rw [e]; rfl⟩
theorem Qik {fp : List Addr} {h : Heap} {p : Addr × Obj} (hp : p ∈ QeX fp h) : p.1 ∈ fp ∧ h.get? p.1 = some p.2 := by
 obtain ⟨b, hb, e⟩ := List.mem_filterMap.mp hp
 cases q : h.get? b with
 | none => rw [q] at e; cases e
 | some o =>
  rw [q] at e
  have e' : (b, o) = p := Option.some.inj e
  subst e'
  exact ⟨hb, q⟩
theorem Inv.pinned {pins : Pn} {σ : St} {H : Hp} {s : Shared} {fp : List Addr} (I : Inv X pins σ H s) (hf : ∀ b ∈ fp, Qhf X pins H b) (ho : ∀ b ∈ fp, ∃ o, s.heap.get? b = some o ∧ ∀ v, o.data ≠ .cell v) : Inv X (pins ++ QeX fp s.heap) σ H s :=
 I.pins_of fun p hp => (List.mem_append.mp hp).elim (fun z => I.pin p (List.mem_append_right _ z)) fun z => by
  obtain ⟨hb, e⟩ := Qik z
  obtain ⟨f0, f1, f2, _⟩ := hf p.1 hb
  obtain ⟨o, e', d⟩ := ho p.1 hb
  rw [e] at e'; cases e'
  exact ⟨e, f0, f1, f2, d⟩
theorem Inv.unpinned {pins pl : Pn} {σ : St} {H : Hp} {s : Shared} (I : Inv X (pins ++ pl) σ H s) : Inv X pins σ H s := I.pins_of fun p hp => I.pin p (List.mem_append_right _ (List.mem_append_left _ hp))
theorem Za {iter : Expr} {body : List Stmt} {wi : TI} {g : TG} {tb : TS} {pos : Pos} (hp : PassesOwn (model X.prog X.w) X.A X.env X.xe) (hc : X.calm = true) (hi : PI X tg iter wi) (hg : PG X tg g) (hb : PSs X body tb)
  (hs : ∀ x, foldedSetIterable iter X.env x = pure x := by intro _; rfl) : PS X (.For tg iter body [] pos) (tFor wi g tb) := by
 intro pins s σ H D I h
 refine wpAny_For (thn (hi pins s σ H _ I h) fun v s1 h1 => thn h1 fun itv s2 h2 => ?_) hs
 obtain ⟨it, fp, tn, J, H2, e, I2, T, st2, f2, W, ⟨m0, w0⟩, turn⟩ := h2
 subst e
 have stat : ∀ {H' : Hp}, (∀ b ∈ fp, H' b = none) → ∀ b ∈ fp, Qhf X pins H' b := fun hn b hb => ⟨hn b hb, (f2 b hb).2⟩
 refine codeAny_forLoop_any (fun n s' => ∃ i σ' H', Inv X pins σ' H' s' ∧ tn i s'.heap ∧ (∀ b ∈ fp, H' b = none) ∧ W i n σ' H') ?_ m0 ⟨0, σ, H2, I2, st2, fun b hb => (f2 b hb).1, w0⟩
 rintro n s3 ⟨i, σ3, H3, I3, st3, fr3, w3⟩
 rcases turn i n σ3 H3 w3 with ⟨stop, qn⟩ | ⟨go, N, hN, step⟩
 ·refine wpAny_passesOwn hp (thn (T.done X rfl rfl rfl hc i pins s3 σ3 H3 X.xe I3 (stat fr3) st3 stop) fun r s4 ⟨hr, I4⟩ => ?_)
  subst hr
  exact wpAny_execs_nil ⟨σ3, H3, I4, qn⟩
 ·refine wpAny_passesOwn hp (thn (T.item X rfl rfl rfl hc i pins s3 σ3 H3 X.xe I3 (stat fr3) st3 go) fun r s4 ⟨u, hr, h4⟩ => ?_)
  subst hr
  refine wpAny_passesOwn hp (thn h4 fun _ s5 ⟨x, H5, I5, r5, y5, st5, fr5⟩ => ?_)
  have I5' := I5.pinned (stat fr5) (T.obj _ _ st5)
  refine wpAny_passesOwn hp (thn (hg _ s5 σ3 H5 x u _ I5' r5 (step x H5 y5)) fun _ s6 ⟨σ6, H6, I6, q6⟩ => ?_)
  refine wpAny_passesOwn hp (thn (hb _ s6 σ6 H6 _ I6 q6) fun f s7 q7 => ?_)
  have again : ∀ {σ7 : St} {H7 : Hp}, Inv X (pins ++ QeX fp s5.heap) σ7 H7 s7 → N σ7 H7 → ∃ m, m < n ∧ ∃ i σ' H', Inv X pins σ' H' s7 ∧ tn i s7.heap ∧ (∀ b ∈ fp, H' b = none) ∧ W i m σ' H' := fun {σ7 H7} I7 n7 => by
   obtain ⟨m', hm, w7⟩ := hN σ7 H7 n7
   refine ⟨m', hm, i + 1, σ7, H7, I7.unpinned, T.keep _ _ _ st5 fun b hb o e => (I7.pin (b, o) (List.mem_append_right _ (List.mem_append_right _ (Qb2 hb e)))).1, fun b hb => ?_, w7⟩
   obtain ⟨o, e, d⟩ := T.obj _ _ st5 b hb
   exact (I7.pin (b, o) (List.mem_append_right _ (List.mem_append_right _ (Qb2 hb e)))).2.1
  cases f with
  | next => obtain ⟨σ7, H7, I7, n7⟩ := q7; exact again I7 n7
  | cont => obtain ⟨σ7, H7, I7, n7⟩ := q7; exact again I7 n7
  | brk => obtain ⟨σ7, H7, I7, q7⟩ := q7; exact ⟨σ7, H7, I7.unpinned, q7⟩
  | ret v => obtain ⟨x7, σ7, H7, I7, r7, q7⟩ := q7; exact ⟨x7, σ7, H7, I7.unpinned, r7, q7⟩
end
theorem Zv {K : Fg} {a : Addr} {xs : List V} {g : TG} {tb : TS} {D : Qi7} {σ : St} {H : Hp} (Pv : Nat → St → Hp → Prop) (h0 : Pv 0 σ H) (hl : ∀ i σ H, i ≤ xs.length → Pv i σ H → SqL K H a xs)
  (hs : ∀ i x σ H, xs[i]? = some x → Pv i σ H → g x σ H fun σ2 H2 => tb { D with nx := Pv (i + 1), ct := Pv (i + 1), bk := D.nx } σ2 H2) (hd : ∀ σ H, Pv xs.length σ H → D.nx σ H) :
  ∃ W : Nat → Nat → St → Hp → Prop, (∃ m, W 0 m σ H) ∧ ∀ i m σ H, W i m σ H →
   ((Itl K a).stop i H ∧ D.nx σ H) ∨ ((Itl K a).go i H ∧ ∃ N : St → Hp → Prop, (∀ σ' H', N σ' H' → ∃ m', m' < m ∧ W (i + 1) m' σ' H') ∧ ∀ x H', (Itl K a).yld i H x H' → g x σ H' fun σ2 H2 => tb { D with nx := N, ct := N, bk := D.nx } σ2 H2) := by
 refine ⟨fun i m σ H => m = xs.length - i ∧ i ≤ xs.length ∧ Pv i σ H, ⟨xs.length, by simp, Nat.zero_le _, h0⟩, ?_⟩
 rintro i m σ H ⟨rfl, hi, p⟩
 have q := hl i σ H hi p
 by_cases hlt : i < xs.length
 ·refine .inr ⟨⟨xs, xs[i], q, by simp [hlt]⟩, Pv (i + 1), fun σ' H' p' => ⟨xs.length - (i + 1), by omega, rfl, hlt, p'⟩, fun x H' y => ?_⟩
  obtain ⟨e, y⟩ := y
  subst e
  exact hs i x σ _ (y xs q) p
 ·have e : i = xs.length := by omega
  subst e
  exact .inl ⟨⟨xs, q, Nat.le_refl _⟩, hd σ H p⟩
theorem QaI {lo : Int} {n : Nat} {g : TG} {tb : TS} {D : Qi7} {σ : St} {H : Hp} (Pv : Nat → St → Hp → Prop) (h0 : Pv 0 σ H)
  (hs : ∀ i σ H, i < n → Pv i σ H → g (.int (lo + i)) σ H fun σ2 H2 => tb { D with nx := Pv (i + 1), ct := Pv (i + 1), bk := D.nx } σ2 H2) (hd : ∀ σ H, Pv n σ H → D.nx σ H) :
  ∃ W : Nat → Nat → St → Hp → Prop, (∃ m, W 0 m σ H) ∧ ∀ i m σ H, W i m σ H →
   ((Itr lo n).stop i H ∧ D.nx σ H) ∨ ((Itr lo n).go i H ∧ ∃ N : St → Hp → Prop, (∀ σ' H', N σ' H' → ∃ m', m' < m ∧ W (i + 1) m' σ' H') ∧ ∀ x H', (Itr lo n).yld i H x H' → g x σ H' fun σ2 H2 => tb { D with nx := N, ct := N, bk := D.nx } σ2 H2) := by
 refine ⟨fun i m σ H => m = n - i ∧ i ≤ n ∧ Pv i σ H, ⟨n, by simp, Nat.zero_le _, h0⟩, ?_⟩
 rintro i m σ H ⟨rfl, hi, p⟩
 by_cases hlt : i < n
 ·refine .inr ⟨hlt, Pv (i + 1), fun σ' H' p' => ⟨n - (i + 1), by omega, rfl, hlt, p'⟩, fun x H' y => ?_⟩
  obtain ⟨e, y⟩ := y
  subst e y
  exact hs i σ _ hlt p
 ·have e : i = n := by omega
  subst e
  exact .inl ⟨Nat.le_refl _, hd σ H p⟩
theorem QgT {c : TT} {tb : TS} {D : Qi7} {σ : St} {H : Hp} (Pv : St → Hp → Prop) (μ : St → Hp → Nat) (h0 : Pv σ H)
  (hs : ∀ σ H, Pv σ H → c σ H fun b H1 => if b = true then tb { D with nx := fun σ' H' => Pv σ' H' ∧ μ σ' H' < μ σ H, ct := fun σ' H' => Pv σ' H' ∧ μ σ' H' < μ σ H, bk := D.nx } σ H1 else D.nx σ H1)
  (mono : ∀ σ H Q Q', (∀ b H1, Q b H1 → Q' b H1) → c σ H Q → c σ H Q') : QjO c tb D σ H := by
 refine ⟨fun m σ H => m = μ σ H ∧ Pv σ H, ⟨_, rfl, h0⟩, ?_⟩
 rintro m σ H ⟨rfl, p⟩
 refine mono σ H _ _ (fun b H1 q => ?_) (hs σ H p)
 cases b with
 | true => exact ⟨_, fun σ' H' ⟨p', l⟩ => ⟨_, l, rfl, p'⟩, q⟩
 | false => exact q
end L2
namespace L2
open PySem PySem.Spec PyProof.Rows
abbrev R2 := V → V → Hp → VK → Prop
def OpR (X : Cx) (f : Value → Value → Sem Value) (r : R2) : Prop :=
 ∀ (pins : Pn) (s : Shared) (σ : St) (H : Hp) (x y : V) (v u : Value) (Q : VK), Inv X pins σ H s → RelV x v → RelV y u → r x y H Q →
  wpAny (model X.prog X.w) X.A (f v u) (EP X pins σ Q) X.xe s
def UnR (X : Cx) (f : Value → Sem Value) (r : V → Hp → VK → Prop) : Prop :=
 ∀ (pins : Pn) (s : Shared) (σ : St) (H : Hp) (x : V) (v : Value) (Q : VK), Inv X pins σ H s → RelV x v → r x H Q →
  wpAny (model X.prog X.w) X.A (f v) (EP X pins σ Q) X.xe s
def QeE (X : Cx) (f : Value) (r : List V → Hp → VK → Prop) : Prop :=
 ∀ (pins : Pn) (s : Shared) (σ : St) (H : Hp) (xs : List V) (us : List Value) (Q : VK), Inv X pins σ H s → Vals xs us → r xs H Q →
  wpAny (model X.prog X.w) X.A (call f us) (EP X pins σ Q) X.xe s
def tOp (r : R2) (ta tb : TE) : TE := fun σ H Q => ta σ H fun x H1 => tb σ H1 fun y H2 => r x y H2 Q
def tUn (r : V → Hp → VK → Prop) (ta : TE) : TE := fun σ H Q => ta σ H fun x H1 => r x H1 Q
def rI (C : Int → Int → Prop) (g : Int → Int → V) : R2 := fun x y H Q => ∃ i j, x = .int i ∧ y = .int j ∧ C i j ∧ Q (g i j) H
def rI0 (g : Int → Int → V) : R2 := fun x y H Q => ∃ i j, x = .int i ∧ y = .int j ∧ Q (g i j) H
def rU (g : Int → V) : V → Hp → VK → Prop := fun x H Q => ∃ i, x = .int i ∧ Q (g i) H
section
variable {X : Cx} {a b c : Expr} {ta tb tc : TE} {pos : Pos}
theorem binT (ha : PE X a ta) (hb : PE X b tb) {pins : Pn} {s : Shared} {σ : St} {H : Hp} {R : V → V → Hp → Prop} (I : Inv X pins σ H s)
  (h : ta σ H fun x H1 => tb σ H1 fun y H2 => R x y H2) {Q : Value → Shared → Prop} {f : Value → Value → Sem Value}
  (hf : ∀ v u s2 x y H2, Inv X pins σ H2 s2 → RelV x v → RelV y u → R x y H2 → wpAny (model X.prog X.w) X.A (f v u) Q X.xe s2) :
  wpAny (model X.prog X.w) X.A (eval a X.env) (fun v s₁ => wpAny (model X.prog X.w) X.A (eval b X.env) (fun u s₂ => wpAny (model X.prog X.w) X.A (f v u) Q X.xe s₂) X.xe s₁) X.xe s := by
 refine thn (ha pins s σ H _ I h) fun v s1 ⟨x, H1, I1, r1, q1⟩ => ?_
 refine thn (hb pins s1 σ H1 _ I1 q1) fun u s2 ⟨y, H2, I2, r2, q2⟩ => ?_
 exact hf v u s2 x y H2 I2 r1 r2 q2
theorem Qz {op : Operator} {r : R2} (ho : OpR X (binaryOp op) r) (ha : PE X a ta) (hb : PE X b tb) : PE X (.BinOp a op b pos) (tOp r ta tb) := by
 intro pins s σ H Q I h
 exact wpAny_BinOp (binT ha hb I h fun v u s2 x y H2 I2 rx ry q => ho pins s2 σ H2 x y v u Q I2 rx ry q)
theorem pe_un {op : UnaryOp} {r : V → Hp → VK → Prop} (ho : UnR X (unaryOp op) r) (ha : PE X a ta) : PE X (.UnaryOp op a pos) (tUn r ta) := by
 intro pins s σ H Q I h
 exact UnaryOp_ (thn (ha pins s σ H _ I h) fun v s1 ⟨x, H1, I1, r1, q1⟩ => ho pins s1 σ H1 x v Q I1 r1 q1)
theorem opI {f : Value → Value → Sem Value} {C : Int → Int → Prop} {g : Int → Int → Int}
  (rule : ∀ (i j : Int) (t u : Tok) (s : Shared) (Q : Value → Shared → Prop) (E : Value → Shared → Prop), C i j → Q (.int (g i j) s.toks) { s with toks := s.toks + 1 } → wpAny (model X.prog X.w) X.A (f (.int i t) (.int j u)) Q E s) :
  OpR X f (rI C fun i j => .int (g i j)) := by
 intro pins s σ H x y v u Q I rx ry h
 obtain ⟨i, j, rfl, rfl, hc, q⟩ := h
 obtain ⟨t, rfl⟩ := rx
 obtain ⟨t', rfl⟩ := ry
 exact rule i j t t' s _ _ hc ⟨.int (g i j), H, I.tok _, ⟨_, rfl⟩, q⟩
theorem opI0 {f : Value → Value → Sem Value} {g : Int → Int → Int}
  (rule : ∀ (i j : Int) (t u : Tok) (s : Shared) (Q : Value → Shared → Prop) (E : Value → Shared → Prop), Q (.int (g i j) s.toks) { s with toks := s.toks + 1 } → wpAny (model X.prog X.w) X.A (f (.int i t) (.int j u)) Q E s) :
  OpR X f (rI0 fun i j => .int (g i j)) := by
 intro pins s σ H x y v u Q I rx ry h
 obtain ⟨i, j, rfl, rfl, q⟩ := h
 obtain ⟨t, rfl⟩ := rx
 obtain ⟨t', rfl⟩ := ry
 exact rule i j t t' s _ _ ⟨.int (g i j), H, I.tok _, ⟨_, rfl⟩, q⟩
theorem opB0 {f : Value → Value → Sem Value} {g : Int → Int → Bool}
  (rule : ∀ (i j : Int) (t u : Tok) (s : Shared) (Q : Value → Shared → Prop) (E : Value → Shared → Prop), Q (.bool (g i j)) s → wpAny (model X.prog X.w) X.A (f (.int i t) (.int j u)) Q E s) :
  OpR X f (rI0 fun i j => .bl (g i j)) := by
 intro pins s σ H x y v u Q I rx ry h
 obtain ⟨i, j, rfl, rfl, q⟩ := h
 obtain ⟨t, rfl⟩ := rx
 obtain ⟨t', rfl⟩ := ry
 exact rule i j t t' s _ _ ⟨.bl (g i j), H, I, rfl, q⟩
def CDiv (i j : Int) : Prop := 0 < j ∧ j < 1073741824
def CPow (i j : Int) : Prop := 0 ≤ j ∧ j ≤ 1000000 ∧ i.natAbs < 2 ^ 64
def CMul (i j : Int) : Prop := (-(2 ^ 64) < i ∧ i < 2 ^ 64) ∨ (-(2 ^ 64) < j ∧ j < 2 ^ 64)
theorem CMul.ok {i j : Int} (h : CMul i j) : IntMulOk i j := by
 rcases h with ⟨h1, h2⟩ | ⟨h1, h2⟩
 ·exact .of_left (intBits_le_64 h1 h2)
 ·exact .of_right (intBits_le_64 h1 h2)
theorem QaH : OpR X (binaryOp .Add) (rI0 fun i j => .int (i + j)) := opI0 fun _ _ _ _ _ _ _ q => add_int q
theorem Qj3 : OpR X (binaryOp .Sub) (rI0 fun i j => .int (i - j)) := opI0 fun _ _ _ _ _ _ _ q => sub_int q
theorem Qf2 : OpR X (binaryOp .Mult) (rI CMul fun i j => .int (i * j)) := opI fun _ _ _ _ _ _ _ hc q => mul_int q hc.ok
theorem QaG : OpR X (binaryOp .FloorDiv) (rI CDiv fun i j => .int (i / j)) := opI fun i j _ _ _ _ _ hc q => by
 have h1 : (0 : Int) < j := hc.1
 have h2 : j < 1073741824 := hc.2
 exact floordiv_int (by omega) (by rw [Int.fdiv_eq_ediv_of_nonneg i (by omega)]; exact q) (.inl (PyProof.noPylong_small (by omega)))
theorem QV : OpR X (binaryOp .Mod) (rI (fun _ j => 0 < j) fun i j => .int (i % j)) := opI fun i j _ _ _ _ _ hc q => by
 have h1 : (0 : Int) < j := hc
 exact mod_int' (by omega) (by rw [Int.fmod_eq_emod_of_nonneg i (by omega)]; exact q)
theorem Qj5 : OpR X (binaryOp .Pow) (rI CPow fun i j => .int (i ^ j.toNat)) := opI fun _ _ _ _ _ _ _ hc q => pow_int_small hc.1 hc.2.1 hc.2.2 q
theorem unI {f : Value → Sem Value} {g : Int → Int}
  (rule : ∀ (i : Int) (t : Tok) (s : Shared) (Q : Value → Shared → Prop) (E : Value → Shared → Prop), Q (.int (g i) s.toks) { s with toks := s.toks + 1 } → wpAny (model X.prog X.w) X.A (f (.int i t)) Q E s) :
  UnR X f (rU fun i => .int (g i)) := by
 intro pins s σ H x v Q I rx h
 obtain ⟨i, rfl, q⟩ := h
 obtain ⟨t, rfl⟩ := rx
 exact rule i t s _ _ ⟨.int (g i), H, I.tok _, ⟨_, rfl⟩, q⟩
theorem un_neg : UnR X (unaryOp .USub) (rU fun i => .int (-i)) := unI fun _ _ _ _ _ q => neg_int q
end
def scal : V → V → Bool
 | .non, .non => true | .non, .int _ => true | .int _, .non => true | .non, .bl _ => true | .bl _, .non => true | .non, .str _ => true | .str _, .non => true
 | .int _, .int _ => true | .bl _, .bl _ => true | .str _, .str _ => true | .byt _, .byt _ => true
 | .int _, .str _ => true | .str _, .int _ => true | .bl _, .str _ => true | .str _, .bl _ => true
 | _, _ => false
def rEq : R2 := fun x y H Q => scal x y = true ∧ Q (.bl (decide (x = y))) H
def rNe : R2 := fun x y H Q => scal x y = true ∧ Q (.bl (!decide (x = y))) H
theorem QiO {i j : Int} : decide (V.int i = V.int j) = (i == j) := by
 rw [Bool.eq_iff_iff]
 simp
theorem Qkc {i j : Bool} : decide (V.bl i = V.bl j) = (i == j) := by
 rw [Bool.eq_iff_iff]
 simp
theorem QiN {i j : Str} : decide (V.str i = V.str j) = (i == j) := by
 rw [Bool.eq_iff_iff]
 simp
theorem QiP {i j : Array UInt8} : decide (V.byt i = V.byt j) = (i.toList == j.toList) := by
 rw [Bool.eq_iff_iff]
 cases i
 cases j
 simp
section
variable {X : Cx} {a b c : Expr} {ta tb tc : TE} {pos : Pos}
theorem QQ {pins : Pn} {σ : St} {H : Hp} {s : Shared} {Q : VK} {k k' : Bool} (I : Inv X pins σ H s) (q : Q (.bl k) H) (e : k = k') : EP X pins σ Q (.bool k') s := by
 subst e
 exact ⟨.bl k, H, I, rfl, q⟩
theorem QaJ : OpR X (compareOp .Eq) rEq := by
 intro pins s σ H x y v u Q I rx ry h
 obtain ⟨hs, q⟩ := h
 cases x with
 | non =>
  cases rx
  cases y with
  | non => cases ry; exact PySem.EqNone.eq_none_none (QQ I q (by simp))
  | bl j => cases ry; exact PySem.EqNone.eq_none_bool (QQ I q (by simp))
  | int j => obtain ⟨t', rfl⟩ := ry; exact PySem.EqNone.eq_none_int (QQ I q (by simp))
  | str j => obtain ⟨t', rfl⟩ := ry; exact PySem.EqNone.eq_none_str (QQ I q (by simp))
  | _ => exact absurd (show false = true from hs) Bool.false_ne_true
 | bl i =>
  cases rx
  cases y with
  | non => cases ry; exact PySem.EqNone.eq_bool_none (QQ I q (by simp))
  | bl j => cases ry; exact eq_bool (QQ I q Qkc)
  | str j => obtain ⟨t', rfl⟩ := ry; exact PySem.EqMixed.eq_bool_str (QQ I q (by simp))
  | _ => exact absurd (show false = true from hs) Bool.false_ne_true
 | int i =>
  obtain ⟨t, rfl⟩ := rx
  cases y with
  | non => cases ry; exact PySem.EqNone.eq_int_none (QQ I q (by simp))
  | int j => obtain ⟨t', rfl⟩ := ry; exact eq_int (QQ I q QiO)
  | str j => obtain ⟨t', rfl⟩ := ry; exact PySem.EqMixed.eq_int_str (QQ I q (by simp))
  | _ => exact absurd (show false = true from hs) Bool.false_ne_true
 | str i =>
  obtain ⟨t, rfl⟩ := rx
  cases y with
  | non => cases ry; exact PySem.EqNone.eq_str_none (QQ I q (by simp))
  | bl j => cases ry; exact PySem.EqMixed.eq_str_bool (QQ I q (by simp))
  | int j => obtain ⟨t', rfl⟩ := ry; exact PySem.EqMixed.eq_str_int (QQ I q (by simp))
  | str j => obtain ⟨t', rfl⟩ := ry; exact eq_str (QQ I q QiN)
  | _ => exact absurd (show false = true from hs) Bool.false_ne_true
 | byt i =>
  obtain ⟨t, rfl⟩ := rx
  cases y with
  | byt j => obtain ⟨t', rfl⟩ := ry; exact PySem.W.eq_bytes (QQ I q QiP)
  | _ => exact absurd (show false = true from hs) Bool.false_ne_true
 | _ => cases y <;> exact absurd (show false = true from hs) Bool.false_ne_true
theorem op_ne : OpR X (compareOp .NotEq) rNe := by
 intro pins s σ H x y v u Q I rx ry h
 obtain ⟨hs, q⟩ := h
 cases x with
 | non =>
  cases rx
  cases y with
  | non => cases ry; exact PySem.EqNone.ne_none_none (QQ I q (by simp))
  | bl j => cases ry; exact PySem.EqNone.ne_none_bool (QQ I q (by simp))
  | int j => obtain ⟨t', rfl⟩ := ry; exact PySem.EqNone.ne_none_int (QQ I q (by simp))
  | str j => obtain ⟨t', rfl⟩ := ry; exact PySem.EqNone.ne_none_str (QQ I q (by simp))
  | _ => exact absurd (show false = true from hs) Bool.false_ne_true
 | bl i =>
  cases rx
  cases y with
  | non => cases ry; exact PySem.EqNone.ne_bool_none (QQ I q (by simp))
  | bl j => cases ry; exact ne_bool (QQ I q (congrArg not Qkc))
  | str j => obtain ⟨t', rfl⟩ := ry; exact PySem.EqMixed.ne_bool_str (QQ I q (by simp))
  | _ => exact absurd (show false = true from hs) Bool.false_ne_true
 | int i =>
  obtain ⟨t, rfl⟩ := rx
  cases y with
  | non => cases ry; exact PySem.EqNone.ne_int_none (QQ I q (by simp))
  | int j => obtain ⟨t', rfl⟩ := ry; exact ne_int (QQ I q (congrArg not QiO))
  | str j => obtain ⟨t', rfl⟩ := ry; exact PySem.EqMixed.ne_int_str (QQ I q (by simp))
  | _ => exact absurd (show false = true from hs) Bool.false_ne_true
 | str i =>
  obtain ⟨t, rfl⟩ := rx
  cases y with
  | non => cases ry; exact PySem.EqNone.ne_str_none (QQ I q (by simp))
  | bl j => cases ry; exact PySem.EqMixed.ne_str_bool (QQ I q (by simp))
  | int j => obtain ⟨t', rfl⟩ := ry; exact PySem.EqMixed.ne_str_int (QQ I q (by simp))
  | str j => obtain ⟨t', rfl⟩ := ry; exact ne_str (QQ I q (congrArg not QiN))
  | _ => exact absurd (show false = true from hs) Bool.false_ne_true
 | byt i =>
  obtain ⟨t, rfl⟩ := rx
  cases y with
  | byt j => obtain ⟨t', rfl⟩ := ry; exact PySem.W.ne_bytes (QQ I q (congrArg not QiP))
  | _ => exact absurd (show false = true from hs) Bool.false_ne_true
 | _ => cases y <;> exact absurd (show false = true from hs) Bool.false_ne_true
theorem Qii : OpR X (compareOp .Lt) (rI0 fun i j => .bl (decide (i < j))) := opB0 fun _ _ _ _ _ _ _ q => lt_int q
theorem op_le : OpR X (compareOp .LtE) (rI0 fun i j => .bl (decide (i ≤ j))) := opB0 fun _ _ _ _ _ _ _ q => le_int q
theorem Qjs : OpR X (compareOp .Gt) (rI0 fun i j => .bl (decide (j < i))) := opB0 fun _ _ _ _ _ _ _ q => gt_int q
theorem QkD : OpR X (compareOp .GtE) (rI0 fun i j => .bl (decide (j ≤ i))) := opB0 fun _ _ _ _ _ _ _ q => ge_int q
theorem QF (b : Expr) {op : CmpOp} (h : op ≠ .In := by decide) (h2 : op ≠ .NotIn := by decide) : behindInMarks op b = false := by
 have e1 : (op == CmpOp.In) = false := by cases op <;> first | rfl | exact absurd rfl h
 have e2 : (op == CmpOp.NotIn) = false := by cases op <;> first | rfl | exact absurd rfl h2
 cases b <;> simp [behindInMarks, e1, e2]
theorem Qee {op : CmpOp} {r : R2} (ho : OpR X (compareOp op) r) (ha : PE X a ta) (hb : PE X b tb) (hm : behindInMarks op b = false) : PE X (.Compare a [op] [b] pos) (tOp r ta tb) := by
 intro pins s σ H Q I h
 exact wpAny_Compare1 (binT ha hb I h fun v u s2 x y H2 I2 rx ry q => ho pins s2 σ H2 x y v u Q I2 rx ry q) hm
def tTest (t : TE) : TT := fun σ H Q => t σ H fun x H' => ∃ k, x = .bl k ∧ Q k H'
theorem Qp {op : CmpOp} {r : R2} (ho : OpR X (compareOp op) r) (ha : PE X a ta) (hb : PE X b tb) (hm : behindInMarks op b = false) : PT X (.Compare a [op] [b] pos) (tTest (tOp r ta tb)) := by
 intro pins s σ H Q I h
 refine wpAny_isTrue_Compare1 (thn (ha pins s σ H _ I h) fun v s1 ⟨x, H1, I1, r1, q1⟩ => thn (hb pins s1 σ H1 _ I1 q1) fun u s2 ⟨y, H2, I2, r2, q2⟩ =>
  thn (ho pins s2 σ H2 x y v u _ I2 r1 r2 q2) fun c s3 ⟨z, H3, I3, r3, k, e, q3⟩ => ?_) hm
 subst e
 cases r3
 exact wpAny_truthy_bool ⟨H3, I3, q3⟩
theorem Qg8 : (sizeLine : Nat) < 2 ^ 63 := by rw [sizeLine_eq]; decide
theorem Qfa {x : V} {us : List Value} (r : Vals [x] us) : ∃ u, us = [u] ∧ RelV x u := by
 cases r with
 | cons r1 r2 => cases r2; exact ⟨_, rfl, r1⟩
theorem vals2 {x y : V} {us : List Value} (r : Vals [x, y] us) : ∃ u w', us = [u, w'] ∧ RelV x u ∧ RelV y w' := by
 cases r with
 | cons r1 r2 =>
  cases r2 with
  | cons r3 r4 => cases r4; exact ⟨_, _, rfl, r1, r3⟩
theorem QiV : QeE X (.type "int") (fun xs H Q => (∃ i, xs = [.int i] ∧ Q (.int i) H) ∨ ∃ k, xs = [.bl k] ∧ Q (.int (if k then 1 else 0)) H) := by
 intro pins s σ H xs us Q I r h
 rcases h with ⟨i, rfl, q⟩ | ⟨k, rfl, q⟩
 ·obtain ⟨u, rfl, t, rfl⟩ := Qfa r
  exact call_int_int ⟨.int i, H, I, ⟨_, rfl⟩, q⟩
 ·obtain ⟨u, rfl, r1⟩ := Qfa r
  cases r1
  exact call_int_bool ⟨.int (if k then 1 else 0), H, I.tok _, ⟨_, rfl⟩, q⟩
end
end L2
namespace L2
open PySem PySem.Spec PyProof.Rows
structure ObjM (h : Heap) (x dx C : Addr) (mA : Str → Option Value) : Prop where
 obj : h.get? x = some (PySem.W.instObj C dx)
 ns : h.Ns1 dx mA
 ne : dx ≠ x
theorem Qio {h : Heap} {dx : Addr} {mA : Str → Option Value} (n : h.Ns1 dx mA) : ∃ od, h.get? dx = some od ∧ ∀ name, PySem.W.lookIn name od = some (mA name) := by
 obtain ⟨o, es, ep, ho, hd, hk, _, hm⟩ := n
 refine ⟨o, ho, fun name => ?_⟩
 have e := hm name
 unfold nsFind findBy at e
 rw [← Array.find?_toList] at e
 unfold PySem.W.lookIn
 rw [hd]
 dsimp only
 split
 ·rename_i y q
  rw [q] at e
  exact congrArg some e
 ·rename_i q
  rw [q] at e
  have a : es.toList.any (·.refKey) = false := by
   rw [List.any_eq_false]
   intro y hy
   obtain ⟨z, t, hkey⟩ := hk y (Array.mem_toList_iff.mp hy)
   simp [DictEntry.refKey, hkey]
  have a' : ¬ es.toList.any (·.refKey) = true := by rw [a]; exact Bool.false_ne_true
  rw [if_neg a']
  exact congrArg some e
theorem ObjM.look {h : Heap} {x dx C : Addr} {mA : Str → Option Value} (I : ObjM h x dx C mA) : ∃ od, PySem.W.InstAt h x (PySem.W.instObj C dx) C (some od) ∧ ∀ name, PySem.W.lookIn name od = some (mA name) :=
 let ⟨od, ho, hl⟩ := Qio I.ns
 ⟨od, ⟨I.obj, rfl, rfl, ho⟩, hl⟩
section
variable {prog : Program} {w : World} {A : Around} {E : Value → Shared → Prop} {s : Shared} {K : Fg} {x dx C f : Addr} {mA : Str → Option Value} {name : Str} {v : Value}
theorem QkL {expr : Bool} {Q : Value → Shared → Prop} (X : K.In s.heap) (I : ObjM s.heap x dx C mA) (hg : PySem.W.plainGet K C name = true) (hh : PySem.W.hasDictIn K C = true)
  (ha : PySem.W.findIn K (.ref C) name = some none) (hv : mA name = some v) (hv' : PySem.W.handedIn v = true) (h : Q v { s with toks := s.toks + 1 }) :
  wpAny (model prog w) A (getAttr (.ref x) name expr) Q E s := by
 obtain ⟨od, J, hl⟩ := I.look
 exact PySem.W.get_value X J (PySem.W.plainGet_of hg).1 (PySem.W.findObj_own hh ha rfl (by rw [hl, hv])) hv' h
theorem QjD {pl : Sem Bool} {Q : Value × List Value → Shared → Prop} (X : K.In s.heap) (I : ObjM s.heap x dx C mA) (hg : PySem.W.plainGet K C name = true)
  (hf : PySem.W.findIn K (.ref C) name = some (some (.ref f))) (ht : PySem.W.isFn K (.ref f) = true) (hv : mA name = none) (h : Q (.ref f, [.ref x]) s) :
  wpAny (model prog w) A (getMethod (.ref x) name pl) Q E s := by
 obtain ⟨od, J, hl⟩ := I.look
 exact PySem.W.method_fn X J (PySem.W.plainGet_of hg).1 (PySem.W.plainGet_of hg).2 hf (beq_iff_eq.mp ht) (by show (PySem.W.lookIn name od).map (·.isSome) = some false; rw [hl, hv]; rfl) h
theorem Qkq {ns : List Str} {Q : Unit → Shared → Prop} (X : K.In s.heap) (I : ObjM s.heap x dx C mA)
  (hs : PySem.W.findIn K (.ref C) "__setattr__" = some (some (.builtin "object.__setattr__"))) (hp : PySem.W.plainOver K C = true) (ht : PySem.W.takerIn K C name = some none) (hh : PySem.W.hasDictIn K C = true)
  (hw : PySem.Within mA ns) (hsz : ns.length ≤ sizeLine)
  (h : ∀ h', ObjM h' x dx C (fun y => if y = name then some v else mA y) → Heap.SameBut dx s.heap h' → Q () { s with heap := h', toks := s.toks + 2 }) :
  wpAny (model prog w) A (setAttr (.ref x) name v) Q E s := by
 obtain ⟨od, J, hl⟩ := I.look
 refine PySem.W.set_plain X J hs (PySem.W.osa_open (s := { s with toks := s.toks + 1 }) (r := none) X J hp ht fun b => ?_)
 obtain ⟨cd, hc, hd'⟩ := PySem.W.any_some hh
 have hx : s.heap.get? x = some ⟨.ref C, some dx, .plain, #[]⟩ := I.obj
 refine wpAny_bind (wpAny_pure (wpAny_bind (wpAny_bind (wpAny_loadPart hx (wpAny_bind (PySem.W.Looks.here (s := { s with toks := s.toks + 1 }) (PySem.W.looks_clsIn X hc) ?_))))))
 rw [hd']
 refine wpAny_pure (a := some dx) (wpAny_bind (wpAny_pure (wpAny_bind ?_)))
 refine wpAny_nsSet1 (s := { s with toks := s.toks + 1 }) I.ns fun h' hn2 hs2 => ?_
 obtain ⟨oD, esD, epD, hoD, hdD, hcD⟩ := hn2.count (PySem.Within.cons name v hw)
 refine wpAny_bind (wpAny_lookBehind hoD (by rw [hdD]; exact pastItsLine_dict (Nat.le_trans hcD (by rw [List.length_cons]; omega))) ?_)
 exact wpAny_pure (h _ ⟨(hs2.2 _ (Ne.symm I.ne)).trans I.obj, hn2, I.ne⟩ hs2)
theorem Qjx {R : Result → Shared → Prop} {vs : List Value} {kw : List (Str × Value)} (X : K.In s.heap) (hm : PySem.W.makesIn K C = true)
  (hi : PySem.W.findIn K (.ref C) "__init__" = some (some (.ref f))) (hf : PySem.W.typeIn K (.ref f) = some (.type "function"))
  (h : codeAny (model prog w) (A.under (.builtin "type.__call__" ⟨.ref C :: vs, kw⟩)) (.call (.ref f) ⟨.ref (s.heap.objs.size + 1) :: vs, kw⟩) (PySem.W.InitBack (s.heap.objs.size + 1) R)
   { s with heap := (s.heap.push PySem.W.emptyDict).push (PySem.W.instObj C s.heap.objs.size) }) :
  codeAny (model prog w) A (.call (.ref C) ⟨vs, kw⟩) R s := by
 obtain ⟨hh, g, d, t, os⟩ := s
 exact PySem.W.make_core (PySem.W.makes_of X hm) (PySem.W.looks_findIn X hi) (fun self => PySem.W.bind_fn X self hf) (.inl rfl) h
end
def QcC (f : Str) (v : V) : List (Str × V) → List (Str × V)
 | [] => [(f, v)]
 | (g, x) :: r => if g = f then (g, v) :: r else (g, x) :: QcC f v r
theorem Qes (f g : Str) (v : V) : ∀ fs : List (Str × V), (QcC f v fs).lookup g = if g = f then some v else fs.lookup g
 | [] => by
  show List.lookup g [(f, v)] = _
  by_cases h : g = f
  ·have hb : (g == f) = true := beq_iff_eq.mpr h
   simp only [List.lookup, hb, if_pos h]
  ·have hb : (g == f) = false := beq_eq_false_iff_ne.mpr h
   simp only [List.lookup, hb, if_neg h]
 | (k, x) :: r => by
  have ih := Qes f g v r
  rw [show QcC f v ((k, x) :: r) = (if k = f then (k, v) :: r else (k, x) :: QcC f v r) from rfl]
  by_cases hk : k = f
  ·rw [if_pos hk]
   by_cases h : g = k
   ·have hb : (g == k) = true := beq_iff_eq.mpr h
    simp only [List.lookup, hb, if_pos (h.trans hk)]
   ·have hb : (g == k) = false := beq_eq_false_iff_ne.mpr h
    simp only [List.lookup, hb, if_neg (fun e : g = f => h (e.trans hk.symm))]
  ·rw [if_neg hk]
   by_cases h : g = k
   ·have hb : (g == k) = true := beq_iff_eq.mpr h
    simp only [List.lookup, hb, if_neg (fun e : g = f => hk (h.symm.trans e))]
   ·have hb : (g == k) = false := beq_eq_false_iff_ne.mpr h
    simp only [List.lookup, hb]
    exact ih
theorem Qey (f : Str) (v : V) : ∀ fs : List (Str × V), f ∈ (QcC f v fs).map (·.1) ∧ ∀ g, g ∈ fs.map (·.1) → g ∈ (QcC f v fs).map (·.1)
 | [] => ⟨by simp [QcC], fun g h => by simp at h⟩
 | (k, x) :: r => by
  obtain ⟨i1, i2⟩ := Qey f v r
  rw [show QcC f v ((k, x) :: r) = (if k = f then (k, v) :: r else (k, x) :: QcC f v r) from rfl]
  by_cases hk : k = f
  ·rw [if_pos hk]
   subst hk
   exact ⟨by simp, fun g h => by simpa using h⟩
  ·rw [if_neg hk]
   refine ⟨?_, fun g h => ?_⟩
   ·rw [List.map_cons]
    exact List.mem_cons_of_mem _ i1
   ·rw [List.map_cons] at h ⊢
    rcases List.mem_cons.mp h with e | e
    ·exact List.mem_cons.mpr (.inl e)
    ·exact List.mem_cons_of_mem _ (i2 g e)
theorem Qew (f : Str) (v : V) : ∀ fs : List (Str × V), (QcC f v fs).length ≤ fs.length + 1
 | [] => by simp [QcC]
 | (k, x) :: r => by
  have ih := Qew f v r
  rw [show QcC f v ((k, x) :: r) = (if k = f then (k, v) :: r else (k, x) :: QcC f v r) from rfl]
  by_cases hk : k = f
  ·rw [if_pos hk, List.length_cons, List.length_cons]; omega
  ·rw [if_neg hk, List.length_cons, List.length_cons]; omega
theorem RelO.some_of {v : V} {o : Option Value} (r : RelO (some v) o) : ∃ u, o = some u ∧ RelV v u := by
 cases o with
 | none => exact (show False from r).elim
 | some u => exact ⟨u, rfl, r⟩
theorem RelO.none_of {o : Option Value} (r : RelO none o) : o = none := by
 cases o with
 | none => rfl
 | some u => exact (show False from r).elim
theorem QiB {v : V} {u : Value} (r : RelV v u) : PySem.W.handedIn u = true := by
 cases v with
 | non => cases (show u = Value.none from r); rfl
 | bl b => cases (show u = Value.bool b from r); rfl
 | int i => obtain ⟨t, e⟩ := (show ∃ t, u = Value.int i t from r); cases e; rfl
 | str x => obtain ⟨t, e⟩ := (show ∃ t, u = Value.str x t from r); cases e; rfl
 | byt b => obtain ⟨t, e⟩ := (show ∃ t, u = Value.bytes b t from r); cases e; rfl
 | flt b => obtain ⟨t, e⟩ := (show ∃ t, u = Value.float b t from r); cases e; rfl
 | ref a => cases (show u = Value.ref a from r); rfl
 | ty n => cases (show u = Value.type n from r); rfl
section
variable {P : Program} {w : World} {H H' : Hp} {h h' : Heap} {a C dx : Addr} {fs fs' : List (Str × V)}
theorem QfD (hok : HOk P w H h) (e : H a = some (.ins C dx fs)) : ∃ mA, ObjM h a dx C mA ∧ (∀ f, RelO (fs.lookup f) (mA f)) ∧ PySem.Within mA (fs.map (·.1)) ∧ fs.length ≤ 1000 ∧ H dx = some (.own a) := by
 obtain ⟨d, z, ne, ob, mA, n, r, q⟩ := (show ObjOk P w H h a (.ins C dx fs) from hok a _ e)
 exact ⟨mA, ⟨ob, n, ne⟩, r, q, z, d⟩
end
structure Cls (K : Fg) (C : Addr) : Prop where
 pg : PySem.W.plainGet K C Str.empty = true
 hd : PySem.W.hasDictIn K C = true
 po : PySem.W.plainOver K C = true
 sa : PySem.W.findIn K (.ref C) "__setattr__" = some (some (.builtin "object.__setattr__"))
theorem Cls.get {K : Fg} {C : Addr} (c : Cls K C) (f : Str) : PySem.W.plainGet K C f = true := c.pg
def NoAttr (K : Fg) (C : Addr) (f : Str) : Prop := PySem.W.findIn K (.ref C) f = some none
theorem NoAttr.taker {K : Fg} {C : Addr} {f : Str} (n : NoAttr K C f) : PySem.W.takerIn K C f = some none := by
 unfold PySem.W.takerIn
 rw [show PySem.W.findIn K (.ref C) f = some none from n]
 rfl
structure Meth (K : Fg) (C : Addr) (m : Str) (f : Addr) : Prop where
 at_ : PySem.W.findIn K (.ref C) m = some (some (.ref f))
 fn : PySem.W.isFn K (.ref f) = true
 kp : PySem.W.keepIn K (.ref f) = true
section
variable {X : Cx} {pins : Pn} {σ : St} {H : Hp} {s : Shared} {a C dx : Addr} {fs : List (Str × V)} {f : Str} {v : V} {A : Around} {E : Value → Shared → Prop}
theorem Qhx {b : Bool} {Q : Value → Shared → Prop} (I : Inv X pins σ H s) (e : H a = some (.ins C dx fs)) (c : Cls X.K C) (n : NoAttr X.K C f) (l : fs.lookup f = some v)
  (h : ∀ u s', Inv X pins σ H s' → RelV v u → Q u s') : wpAny (model X.prog X.w) A (getAttr (.ref a) f b) Q E s := by
 obtain ⟨mA, O, r, _, _, _⟩ := QfD I.hok e
 obtain ⟨u, hu, ru⟩ := RelO.some_of (v := v) (o := mA f) (by rw [← l]; exact r f)
 exact QkL I.kIn O (c.get f) c.hd n hu (QiB ru) (h u _ (I.tok _) ru)
theorem Qe5 {m : Str} {g : Addr} {pl : Sem Bool} {Q : Value × List Value → Shared → Prop} (I : Inv X pins σ H s) (e : H a = some (.ins C dx fs)) (c : Cls X.K C) (k : Meth X.K C m g) (l : fs.lookup m = none)
  (h : Q (.ref g, [.ref a]) s) : wpAny (model X.prog X.w) A (getMethod (.ref a) m pl) Q E s := by
 obtain ⟨mA, O, r, _, _, _⟩ := QfD I.hok e
 have hn : mA m = none := RelO.none_of (by rw [← l]; exact r m)
 exact QjD I.kIn O (c.get m) k.at_ k.fn hn h
theorem Qhh {y : V} {u : Value} {Q : Unit → Shared → Prop} (I : Inv X pins σ H s) (e : H a = some (.ins C dx fs)) (c : Cls X.K C) (n : NoAttr X.K C f) (hl : fs.length < 1000) (ry : RelV y u)
  (h : ∀ s', Inv X pins σ (upd H a (.ins C dx (QcC f y fs))) s' → Q () s') : wpAny (model X.prog X.w) A (setAttr (.ref a) f u) Q E s := by
 obtain ⟨mA, O, r, wi, _, ho⟩ := QfD I.hok e
 have hz : (fs.map (·.1)).length ≤ sizeLine := by rw [List.length_map, sizeLine_eq]; omega
 refine Qkq I.kIn O c.sa c.po n.taker c.hd wi hz fun h' O' sb => h _ ?_
 have hd : ∃ o, h'.get? dx = some o := let ⟨o, _, _, e', _⟩ := O'.ns; ⟨o, e'⟩
 refine I.write (x := a) (e := dx) (by rw [e]; exact True.intro) (.inr ho) (fun b q hb z => (sb.2 b hb).trans z) hd ?_
 refine ⟨by rw [Qf O.ne]; exact ho, ?_, O.ne, O'.obj, _, O'.ns, fun g => ?_, fun g hg => ?_⟩
 ·have := Qew f y fs; omega
 ·show RelO ((QcC f y fs).lookup g) (if g = f then some u else mA g)
  rw [Qes]
  by_cases q : g = f
  ·rw [if_pos q, if_pos q]; exact ry
  ·rw [if_neg q, if_neg q]; exact r g
 ·by_cases q : g = f
  ·rw [q]; exact (Qey f y fs).1
  ·refine (Qey f y fs).2 g (wi g fun z => hg ?_)
   show (if g = f then some u else mA g) = none
   rw [if_neg q]; exact z
theorem Inv.made (I : Inv X pins σ H s) : Inv X pins σ (upd (upd H s.heap.objs.size (.own (s.heap.objs.size + 1))) (s.heap.objs.size + 1) (.ins C s.heap.objs.size []))
  { s with heap := (s.heap.push PySem.W.emptyDict).push (PySem.W.instObj C s.heap.objs.size) } := by
 have e1 : (s.heap.push PySem.W.emptyDict).get? s.heap.objs.size = some PySem.W.emptyDict := Heap.get?_push_size s.heap rfl
 have e2 : ((s.heap.push PySem.W.emptyDict).push (PySem.W.instObj C s.heap.objs.size)).get? (s.heap.objs.size + 1) = some (PySem.W.instObj C s.heap.objs.size) := by
  have := Heap.get?_push_size (s.heap.push PySem.W.emptyDict) (o := PySem.W.instObj C s.heap.objs.size) rfl
  rwa [Heap.size_push] at this
 have e3 : (s.heap.push PySem.W.emptyDict).Ns s.heap.objs.size (fun _ => none) := ⟨PySem.W.emptyDict, #[], _, e1, rfl, (fun e he => absurd he (by simp)), fun _ => rfl⟩
 have I1 := I.laid (a := s.heap.objs.size) (o := .own (s.heap.objs.size + 1)) (h' := s.heap.push PySem.W.emptyDict) (t' := s.toks) (fun b u q => Heap.get?_push_of_some _ q) (Nat.le_refl _) ⟨_, e1⟩
 refine I1.laid (a := s.heap.objs.size + 1) (o := .ins C s.heap.objs.size []) (t' := s.toks) (fun b u q => Heap.get?_push_of_some _ q) (Nat.le_of_eq (Heap.size_push _ _)) ?_
 have ne : s.heap.objs.size ≠ s.heap.objs.size + 1 := Nat.ne_of_lt (Nat.lt_succ_self _)
 refine ⟨by rw [Qf ne, Qb], Nat.zero_le _, ne, e2, fun _ => none, (Heap.Ns1.of_empty e3).at fun o q => Heap.get?_push_of_some _ q, fun _ => True.intro, fun y hy => absurd rfl hy⟩
theorem QkQ {prog : Program} {w : World} {env : Env} {e : Expr} {f : Str} {pos : Pos} {s : Shared} {Q : Value → Shared → Prop} (hb : attributeBase e f env (eval e env) = eval e env)
  (h : wpAny (model prog w) A (eval e env) (fun o s₁ => wpAny (model prog w) A (getAttr o f true) Q E s₁) E s) : wpAny (model prog w) A (eval (.Attribute e f pos) env) Q E s :=
 Attribute_any_ h (by rw [arm_eval_Attribute, hb])
end
def tFld (K : Fg) (ta : TE) (f : Str) : TE := fun σ H Q => ta σ H fun x H1 => ∃ a C dx fs v, x = .ref a ∧ H1 a = some (.ins C dx fs) ∧ Cls K C ∧ NoAttr K C f ∧ fs.lookup f = some v ∧ Q v H1
def sFld (K : Fg) (ta tv : TE) (f : Str) : TS := fun D σ H => tv σ H fun y H1 => ta σ H1 fun x H2 => ∃ a C dx fs, x = .ref a ∧ H2 a = some (.ins C dx fs) ∧ Cls K C ∧ NoAttr K C f ∧ fs.length < 1000 ∧
 D.nx σ (upd H2 a (.ins C dx (QcC f y fs)))
section
variable {X : Cx} {o e value : Expr} {f : Str} {pos pos' tpos : Pos} {ta tv : TE}
theorem Qw (he : PE X e ta) (hb : attributeBase e f X.env (eval e X.env) = eval e X.env) : PE X (.Attribute e f pos) (tFld X.K ta f) := by
 intro pins s σ H Q I h
 refine QkQ hb (thn (he pins s σ H _ I h) fun u s1 ⟨x, H1, I1, rx, a, C, dx, fs, v, ex, ea, c, n, l, q⟩ => ?_)
 subst ex
 obtain rfl : u = Value.ref a := rx
 exact Qhx I1 ea c n l fun u' s2 I2 ru => ⟨v, H1, I2, ru, q⟩
theorem Qbo (ha : PE X o ta) (hv : PE X value tv) (hs : swapsWith value (some (.Attribute o f pos')) pos.line X.env = pure false) : PS X (.Assign [.Attribute o f pos'] value pos) (sFld X.K ta tv f) := by
 intro pins s σ H D I h
 refine plainObj_wpAny_Assign_Attribute (thn (hv pins s σ H _ I h) fun u s1 ⟨y, H1, I1, ry, q⟩ => thn (ha pins s1 σ H1 _ I1 q) fun ov s2 ⟨x, H2, I2, rx, a, C, dx, fs, ex, ea, c, n, l, q2⟩ => ?_) hs
 subst ex
 obtain rfl : ov = Value.ref a := rx
 exact Qhh I2 ea c n l ry fun s3 I3 => ⟨σ, _, I3, q2⟩
end
section
variable {X : Cx} {pins : Pn} {σ : St} {H : Hp} {s : Shared} {A : Around} {E : Value → Shared → Prop} {Q : Value → Shared → Prop} {c : Value} {b : Bool}
inductive TyOf (K : Fg) (H : Hp) : V → Value → Prop where
 | non : TyOf K H .non (.type "NoneType")
 | bl (x : Bool) : TyOf K H (.bl x) (.type "bool")
 | int (i : Int) : TyOf K H (.int i) (.type "int")
 | str (x : Str) : TyOf K H (.str x) (.type "str")
 | flt (x : UInt64) : TyOf K H (.flt x) (.type "float")
 | lst {a : Addr} {xs : List V} (e : H a = some (.lst xs)) : TyOf K H (.ref a) (.type "list")
 | frz {a : Addr} {o : Obj} {xs : List V} (e : H a = some (.frz o (.lst xs))) : TyOf K H (.ref a) (.type "list")
 | tup {a : Addr} {xs : List V} (e : H a = some (.tup xs)) : TyOf K H (.ref a) (.type "tuple")
 | dK {a : Addr} {kvs : List (Key × V)} (e : H a = some (.dK kvs)) : TyOf K H (.ref a) (.type "dict")
 | dT {a : Addr} {kvs : List (List Key × V)} (e : H a = some (.dT kvs)) : TyOf K H (.ref a) (.type "dict")
 | ins {a C dx : Addr} {fs : List (Str × V)} (e : H a = some (.ins C dx fs)) (cl : Cls K C) (ha : PySem.W.findIn K (.ref C) "__class__" = some (some (.builtin "object.__class__")))
   (hn : PySem.W.specialIn K (.builtin "object.__class__") "__get__" = some (some (.builtin "getset_descriptor.__get__"))) (htk : PySem.W.takesIn K (.builtin "object.__class__") = some true)
   (hm : PySem.W.mroIn K C (.type "object") = some true) : TyOf K H (.ref a) (.ref C)
theorem Qiv {x : V} {u t : Value} (I : Inv X pins σ H s) (rx : RelV x u) (ty : TyOf X.K H x t) (e : PySem.W.kitOne X.K t c = some b) (h : ∀ tk, Q (.bool b) { s with toks := tk }) :
  wpAny (model X.prog X.w) A (call (.builtin "isinstance") [u, c]) Q E s := by
 cases ty with
 | non => cases (show u = Value.none from rx); exact PySem.W.kia_one PySem.W.kitx_none I.kIn True.intro e (fun z => nomatch z) h
 | bl y => cases (show u = Value.bool y from rx); exact PySem.W.kia_one PySem.W.kitx_bool I.kIn True.intro e (fun z => nomatch z) h
 | int i => obtain ⟨t, q⟩ := (show ∃ t, u = Value.int i t from rx); cases q; exact PySem.W.kia_one PySem.W.kitx_int I.kIn True.intro e (fun z => nomatch z) h
 | str y => obtain ⟨t, q⟩ := (show ∃ t, u = Value.str y t from rx); cases q; exact PySem.W.kia_one PySem.W.kitx_str I.kIn True.intro e (fun z => nomatch z) h
 | flt y => obtain ⟨t, q⟩ := (show ∃ t, u = Value.float y t from rx); cases q; exact PySem.W.kia_one PySem.W.kitx_float I.kIn True.intro e (fun z => nomatch z) h
 | @lst a xs ea =>
  cases (show u = Value.ref a from rx)
  obtain ⟨_, _, n, _, h1⟩ := (show ObjOk X.prog X.w H s.heap a (.lst xs) from I.hok a _ ea)
  exact PySem.W.kia_one PySem.W.kitx_list I.kIn ⟨_, h1, rfl⟩ e (fun z => nomatch z) h
 | @frz a ob xs ea =>
  cases (show u = Value.ref a from rx)
  obtain ⟨_, _, _, n, _, h1⟩ := (show ObjOk X.prog X.w H s.heap a (.frz ob (.lst xs)) from I.hok a _ ea)
  exact PySem.W.kia_one PySem.W.kitx_list I.kIn ⟨_, h1, rfl⟩ e (fun z => nomatch z) h
 | @tup a xs ea =>
  cases (show u = Value.ref a from rx)
  obtain ⟨_, _, _, p⟩ := (show ObjOk X.prog X.w H s.heap a (.tup xs) from I.hok a _ ea)
  obtain ⟨o, h1, h2, _⟩ := p
  exact PySem.W.kia_one PySem.W.kitx_tuple I.kIn ⟨o, h1, h2⟩ e (fun z => nomatch z) h
 | @dK a kvs ea =>
  cases (show u = Value.ref a from rx)
  obtain ⟨_, _, vs, _, p⟩ := (show ObjOk X.prog X.w H s.heap a (.dK kvs) from I.hok a _ ea)
  obtain ⟨o, es, ep, h1, h2, _⟩ := p
  exact PySem.W.kia_one PySem.W.kitx_dict I.kIn ⟨o, h1, h2.1⟩ e (fun z => nomatch z) h
 | @dT a kvs ea =>
  cases (show u = Value.ref a from rx)
  obtain ⟨_, _, xs, _, o, es, ep, h1, h2, _⟩ := (show ObjOk X.prog X.w H s.heap a (.dT kvs) from I.hok a _ ea)
  exact PySem.W.kia_one PySem.W.kitx_dict I.kIn ⟨o, h1, h2.1⟩ e (fun z => nomatch z) h
 | @ins a C dx fs ea cl ha hn htk hm =>
  cases (show u = Value.ref a from rx)
  obtain ⟨mA, O, _⟩ := QfD I.hok ea
  obtain ⟨od, J, _⟩ := O.look
  exact PySem.W.kia_one (PySem.W.kitx_own (cl.get _) cl.hd ha hn htk hm) I.kIn J e (fun z => nomatch z) h
end
end L2
namespace L2
open PySem PySem.Spec PyProof.Rows
structure Room (k : Nat) (A : Around) : Prop where
 hd : A.handled = none
 dp : A.depth + 3 * k + 5 < recursionLimit
 un : A.units + 16 * k + 200 < cLine
theorem Room.mono {j k : Nat} {A : Around} (r : Room k A) (h : j ≤ k) : Room j A := ⟨r.hd, by have := r.dp; omega, by have := r.un; omega⟩
theorem Room.deeper {k : Nat} {A : Around} (r : Room (k + 1) A) (env : Env) : Room k (A.deeper env) :=
 ⟨r.hd, by have := r.dp; show A.depth + 1 + 3 * k + 5 < _; omega, by have := r.un; show A.units + 3 + 16 * k + 200 < _; omega⟩
theorem Qhr {A : Around} {C : Addr} {us : List Value} {kw : List (Str × Value)} : (A.under (.builtin "type.__call__" ⟨.ref C :: us, kw⟩)).depth = A.depth + 1 := by
 first | rfl | simp [Around.under, Code.weight, Code.isCreation, Code.isGuard, Code.isCaller, Code.frames, Code.isFrame, guardIds]
theorem Qhq {A : Around} {C : Addr} {us : List Value} {kw : List (Str × Value)} : (A.under (.builtin "type.__call__" ⟨.ref C :: us, kw⟩)).units = A.units + 1 := by
 first | rfl | simp [Around.under, Code.cUnits, Code.frames, Code.isFrame]
theorem Room.make {k : Nat} {A : Around} (r : Room (k + 1) A) (C : Addr) (us : List Value) (kw : List (Str × Value)) : Room k (A.under (.builtin "type.__call__" ⟨.ref C :: us, kw⟩)) :=
 ⟨r.hd, by have := r.dp; rw [Qhr]; omega, by have := r.un; rw [Qhq]; omega⟩
theorem Room.depth {k : Nat} {A : Around} (r : Room k A) : A.depth < recursionLimit := by have := r.dp; omega
theorem Room.units {k : Nat} {A : Around} (r : Room k A) : A.units + 64 < cLine := by have := r.un; omega
def QhH : TA := fun _ H Q => Q [] H
def Qgr (ta : TE) (tr : TA) : TA := fun σ H Q => ta σ H fun x H1 => tr σ H1 fun xs H2 => Q (x :: xs) H2
section
variable {X : Cx} {e : Expr} {es : List Expr} {te : TE} {t : TA} {pos : Pos}
theorem Qe : PA X [] QhH := fun _ _ _ _ H Q I h => Calls.spliced_nil ⟨[], H, I, .nil, h⟩
theorem Qa (ha : PE X e te) (hr : PA X es t) (hs : starEach (e :: es) X.env = (false, eval e X.env) :: starEach es X.env := by rfl) : PA X (e :: es) (Qgr te t) := by
 intro pos pins s σ H Q I h
 rw [hs]
 show wpAny _ _ (spliced ((false, eval e X.env) :: backTo pos (starEach es X.env))) _ _ s
 refine Calls.spliced_cons (thn (ha pins s σ H _ I h) fun u s1 ⟨x, H1, I1, r1, q1⟩ => ?_)
 exact thn (hr pos pins s1 σ H1 _ I1 q1) fun us s2 ⟨xs, H2, I2, r2, q2⟩ => ⟨x :: xs, H2, I2, .cons r1 r2, q2⟩
def tTup (t : TA) : TE := fun σ H Q => t σ H fun xs H1 => xs.length ≤ sizeLine ∧ ∀ p, H1 p = none → Q (.ref p) (upd H1 p (.tup xs))
def Qki (t : TA) : TE := fun σ H Q => t σ H fun xs H1 => xs.length ≤ sizeLine ∧ ∀ p, H1 p = none → Q (.ref p) (upd H1 p (.lst xs))
theorem Qan {x1} (h : PA X es t) : PE X (.Tuple es x1 pos) (tTup t) := by
 intro pins s σ H Q I hq
 refine wpAny_Tuple_spliced (thn (h pos pins s σ H _ I hq) fun us s1 ⟨xs, H1, I1, r, z, q⟩ => ⟨by rw [← r.length]; exact z, ?_⟩)
 have hf : H1 s1.heap.objs.size = none := I1.hok.fresh (Nat.le_refl _)
 refine ⟨.ref s1.heap.objs.size, upd H1 s1.heap.objs.size (.tup xs), I1.laid (t' := s1.toks) (fun b u e => Heap.get?_push_of_some _ e) (Nat.le_refl _) ?_, rfl, q _ hf⟩
 exact ⟨z, us, r, ⟨_, Heap.get?_push_size _ rfl, rfl, _, rfl⟩⟩
theorem ZR (h : PA X es t) : PE X (.List es pos) (Qki t) := by
 intro pins s σ H Q I hq
 refine wpAny_List_spliced (thn (h pos pins s σ H _ I hq) fun us s1 ⟨xs, H1, I1, r, z, q⟩ => ⟨by rw [← r.length]; exact z, ?_⟩)
 have hf : H1 s1.heap.objs.size = none := I1.hok.fresh (Nat.le_refl _)
 refine ⟨.ref s1.heap.objs.size, upd H1 s1.heap.objs.size (.lst xs), I1.laid (t' := s1.toks) (fun b u e => Heap.get?_push_of_some _ e) (Nat.le_refl _) ?_, rfl, q _ hf⟩
 exact ⟨z, us, 0, r, Heap.get?_push_size _ rfl⟩
end
abbrev Sp := List V → Hp → VK → XK → Prop
abbrev CXT := List Env → Hp → Shared → XK → Value → Shared → Prop
structure Env0 (P : Program) (w : World) (K : Fg) (mg : Str → Option Value) (base : Heap) (A : Around) (outer : List Env) (s : Shared) (H : Hp) : Prop where
 frames : A.frames = some outer
 mod : Mod K mg base
 bs : ∀ b o, base.get? b = some o → s.heap.get? b = some o ∧ H b = none
 bsz : base.objs.size ≤ s.heap.objs.size
 funs : s.heap.FunFrames base outer
 frf : ∀ b ∈ frs outer, H b = none
 hok : HOk P w H s.heap
 bare : AllBare s.gens
def CE (outer : List Env) (P : Program) (w : World) (H : Hp) (s : Shared) (Q : VK) (u : Value) (s' : Shared) : Prop :=
 ∃ v H', s'.os = s.os ∧ AllBare s'.gens ∧ Un (frs outer) [] H H' s.heap s'.heap ∧ HOk P w H' s'.heap ∧ RelV v u ∧ Q v H'
def CR (CX : CXT) (outer : List Env) (P : Program) (w : World) (H : Hp) (s : Shared) (Q : VK) (E : XK) (r : Result) (s' : Shared) : Prop :=
 match r with
 | .ok (.ret u) => CE outer P w H s Q u s'
 | .ok _ => False
 | .error e => CX outer H s E e s'
structure FnOk (P : Program) (w : World) (K : Fg) (mg : Str → Option Value) (base : Heap) (CX : CXT) (k : Nat) (f : Addr) (fd : FuncData) (ps : List Str) (sp : Sp) : Prop where
 len : ∀ vs H Q E, sp vs H Q E → vs.length = ps.length
 run : ∀ (A : Around) (outer : List Env) (s : Shared) (H : Hp) (args : Args) (us : List Value) (vs : List V) (Q : VK) (E : XK), Room k A → Env0 P w K mg base A outer s H → BindsTo s fd args (ps.zip us) → Vals vs us → sp vs H Q E →
  codeAny (model P w) A (.call (.ref f) args) (CR CX outer P w H s Q E) s
theorem FnOk.mono {P : Program} {w : World} {K : Fg} {mg : Str → Option Value} {base : Heap} {CX : CXT} {j k : Nat} {f : Addr} {fd : FuncData} {ps : List Str} {sp : Sp} (F : FnOk P w K mg base CX j f fd ps sp) (h : j ≤ k) :
  FnOk P w K mg base CX k f fd ps sp := ⟨F.len, fun A outer s H args us vs Q E hr => F.run A outer s H args us vs Q E (hr.mono h)⟩
theorem Env0.make {P : Program} {w : World} {K : Fg} {mg : Str → Option Value} {base : Heap} {A : Around} {outer : List Env} {s : Shared} {H : Hp} (e : Env0 P w K mg base A outer s H) (C : Addr) (us : List Value) (kw : List (Str × Value)) :
  Env0 P w K mg base (A.under (.builtin "type.__call__" ⟨.ref C :: us, kw⟩)) outer s H := ⟨by first | exact e.frames | (simpa [Around.under, Code.envs, Code.isFrame, pushEnvs] using e.frames), e.mod, e.bs, e.bsz, e.funs, e.frf, e.hok, e.bare⟩
section
variable {X : Cx} {pins : Pn} {σ : St} {H : Hp} {s s' : Shared}
theorem Inv.env0 (I : Inv X pins σ H s) : Env0 X.prog X.w X.K X.mg X.base X.A X.stack s H :=
 ⟨I.ok.frames, I.ok.mod, I.bs, Nat.le_trans I.ok.bsz I.sz, I.stack, I.stkFree, I.hok, I.bare⟩
theorem Inv.after {Q : VK} {u : Value} (I : Inv X pins σ H s) (h : CE X.stack X.prog X.w H s Q u s') : EP X pins σ Q u s' := by
 obtain ⟨v, H', os, bare, un, hok, r, q⟩ := h
 obtain ⟨hh, g, d, t, os'⟩ := s'
 obtain rfl : os' = s.os := os
 exact ⟨v, H', I.call (h' := hh) (g' := g) (d' := d) (t' := t) (ch := []) un hok bare (fun b z => absurd z (by simp)), r, q⟩
end
def tCall (sp : Sp) (dvs : List V) (E : XK) (t : TA) : TE := fun σ H Q => t σ H fun vs H1 => sp (vs ++ dvs) H1 Q E
def QhI (C : Addr) (m : Str) (sp : Sp) (dvs : List V) (E : XK) (ta : TE) (t : TA) : TE := fun σ H Q => ta σ H fun x H1 => ∃ a dx fs, x = .ref a ∧ H1 a = some (.ins C dx fs) ∧ fs.lookup m = none ∧
 t σ H1 fun vs H2 => sp (x :: (vs ++ dvs)) H2 Q E
def tMake (C : Addr) (sp : Sp) (dvs : List V) (E : XK) (t : TA) : TE := fun σ H Q => t σ H fun vs H1 => ∀ x dx, H1 x = none → H1 dx = none → dx ≠ x →
 sp (.ref x :: (vs ++ dvs)) (upd (upd H1 dx (.own x)) x (.ins C dx [])) (fun v H2 => v = .non ∧ Q (.ref x) H2) E
def Binds (K : Fg) (fd : FuncData) (ps : List Str) (ds : List Value) : Prop :=
 ∀ (s : Shared) (us : List Value), K.In s.heap → (us ++ ds).length = ps.length → BindsTo s fd ⟨us, []⟩ (ps.zip (us ++ ds))
theorem Binds.all {K : Fg} {fd : FuncData} {ps : List Str} (h : ∀ us : List Value, us.length = ps.length → bindArgs fd ⟨us, []⟩ = pure (ps.zip us)) : Binds K fd ps [] := fun s us _ hl => by
 rw [List.append_nil] at hl ⊢
 exact .of_eq (h us hl)
def QeD (CX : CXT) (X : Cx) (E : XK) : Prop := ∀ (pins : Pn) (σ : St) (H : Hp) (s : Shared) (e : Value) (s' : Shared), Inv X pins σ H s → CX X.stack H s E e s' → X.xe e s'
section
variable {X : Cx} {CX : CXT} {k : Nat} {f C : Addr} {fd : FuncData} {ps : List Str} {sp : Sp} {dvs : List V} {ds : List Value} {E : XK} {x m : Str} {p pos apos : Pos} {e o : Expr} {es : List Expr} {ta : TE} {t : TA}
theorem Qh5 {pins : Pn} {σ : St} {H : Hp} {s : Shared} {Q : VK} {us : List Value} {vs : List V} (F : FnOk X.prog X.w X.K X.mg X.base CX k f fd ps sp) (hr : Room k X.A) (hb : Binds X.K fd ps ds) (hd : Vals dvs ds) (hx : QeD CX X E)
  (I : Inv X pins σ H s) (r : Vals vs us) (h : sp (vs ++ dvs) H Q E) : wpAny (model X.prog X.w) X.A (call (.ref f) us) (EP X pins σ Q) X.xe s := by
 have r2 : Vals (vs ++ dvs) (us ++ ds) := r.append hd
 have hl : (us ++ ds).length = ps.length := by rw [← r2.length]; exact F.len _ _ _ _ h
 refine wpAny_call (codeAny_mono (F.run X.A X.stack s H ⟨us, []⟩ (us ++ ds) (vs ++ dvs) Q E hr I.env0 (hb s us I.kIn hl) r2 h) fun r s' hq => ?_)
 cases r with
 | error e => exact hx pins σ H s e s' I hq
 | ok fl =>
  cases fl with
  | ret u => exact I.after hq
  | next => exact False.elim hq
  | brk => exact False.elim hq
  | cont => exact False.elim hq
theorem Qid (F : FnOk X.prog X.w X.K X.mg X.base CX k f fd ps sp) (hr : Room k X.A) (hg : Gl X x) (hm : X.mg x = some (.ref f)) (hk : PySem.W.keepIn X.K (.ref f) = true) (hb : Binds X.K fd ps ds) (hd : Vals dvs ds) (hx : QeD CX X E)
  (ha : PA X (e :: es) t) (hdb : (x == ("__debug__" : Str)) = false := by decide) (he : starEach (e :: es) X.env = (false, eval e X.env) :: starEach es X.env := by rfl) (hpl : (backTo pos (starEach es X.env)).any (·.1) = false := by rfl) :
  PE X (.Call (.Name x p) (e :: es) [] pos) (tCall sp dvs E t) := by
 intro pins s σ H Q I h
 refine wpAny_Call_Name_kw (Qfw I hg hm ?_ hdb)
 refine PySem.W.callWith_K (h₀ := X.base) I.ok.mod.kin hk (thn (ha pos pins s σ H _ I h) fun us s1 ⟨vs, H1, I1, r, q⟩ => ⟨I1.kIn, ?_⟩) he hpl
 exact Qh5 F hr hb hd hx I1 r q
theorem Qib {pl : Sem Bool} (he : PE X o ta) (c : Cls X.K C) (hm : Meth X.K C m f) (F : FnOk X.prog X.w X.K X.mg X.base CX k f fd ps sp) (hr : Room k X.A) (hb : Binds X.K fd ps ds) (hd : Vals dvs ds) (hx : QeD CX X E) (ha : PA X (e :: es) t)
  (hst : starEach (e :: es) X.env = (false, eval e X.env) :: starEach es X.env := by rfl) (hpl : (backTo pos (starEach es X.env)).any (·.1) = false := by rfl)
  (ht : eval (.Call (.Attribute o m apos) (e :: es) [] pos) X.env = (do
   let ov ← eval o X.env
   standAt apos.atName
   let (f, first) ← holding [ov] (getMethod ov m pl)
   callWith pos f first (backTo pos (starEach (e :: es) X.env)) (backToKw pos (keywordEach [] X.env))) := by rfl) :
  PE X (.Call (.Attribute o m apos) (e :: es) [] pos) (QhI C m sp dvs E ta t) := by
 intro pins s σ H Q I h
 refine PySem.W.methodCall_KW (pl := pl) (thn (he pins s σ H _ I h) fun u s1 ⟨x, H1, I1, rx, a, dx, fs, ex, ea, l, q⟩ => ?_) ht
 subst ex
 obtain rfl : u = Value.ref a := rx
 refine Qe5 I1 ea c hm l ?_
 refine PySem.W.callWith_K (first := [.ref a]) (h₀ := X.base) I.ok.mod.kin hm.kp (thn (ha pos pins s1 σ H1 _ I1 q) fun us s2 ⟨vs, H2, I2, r, q2⟩ => ⟨I2.kIn, ?_⟩) hst hpl
 exact Qh5 (us := .ref a :: us) (vs := .ref a :: vs) F hr hb hd hx I2 (.cons rfl r) q2
theorem Qjo {pl : Sem Bool} (he : PE X o ta) (c : Cls X.K C) (hm : Meth X.K C m f) (F : FnOk X.prog X.w X.K X.mg X.base CX k f fd ps sp) (hr : Room k X.A) (hb : Binds X.K fd ps ds) (hd : Vals dvs ds) (hx : QeD CX X E)
  (ht : eval (.Call (.Attribute o m apos) [] [] pos) X.env = (do
   let ov ← eval o X.env
   standAt apos.atName
   let (f, first) ← holding [ov] (getMethod ov m pl)
   callWith pos f first (backTo pos (starEach [] X.env)) (backToKw pos (keywordEach [] X.env))) := by rfl) :
  PE X (.Call (.Attribute o m apos) [] [] pos) (QhI C m sp dvs E ta QhH) := by
 intro pins s σ H Q I h
 refine PySem.W.methodCall_KW (pl := pl) (thn (he pins s σ H _ I h) fun u s1 ⟨x, H1, I1, rx, a, dx, fs, ex, ea, l, q⟩ => ?_) ht
 subst ex
 obtain rfl : u = Value.ref a := rx
 refine Qe5 I1 ea c hm l ?_
 exact PySem.W.callWith_K0 (first := [.ref a]) I1.kIn hm.kp (Qh5 (us := [.ref a]) (vs := [.ref a]) F hr hb hd hx I1 (.cons rfl .nil) q)
structure Mk (K : Fg) (C f : Addr) : Prop where
 makes : PySem.W.makesIn K C = true
 init : PySem.W.findIn K (.ref C) "__init__" = some (some (.ref f))
 fn : PySem.W.isFn K (.ref f) = true
 kp : PySem.W.keepIn K (.ref C) = true
theorem Qji {pins : Pn} {σ : St} {H : Hp} {s : Shared} {Q : VK} {us : List Value} {vs : List V} (M : Mk X.K C f) (F : FnOk X.prog X.w X.K X.mg X.base CX k f fd ps sp) (hr : Room (k + 1) X.A) (hb : Binds X.K fd ps ds) (hd : Vals dvs ds)
  (hx : QeD CX X E) (I : Inv X pins σ H s) (r : Vals vs us)
  (h : ∀ x dx, H x = none → H dx = none → dx ≠ x → sp (.ref x :: (vs ++ dvs)) (upd (upd H dx (.own x)) x (.ins C dx [])) (fun v H2 => v = .non ∧ Q (.ref x) H2) E) :
  wpAny (model X.prog X.w) X.A (call (.ref C) us) (EP X pins σ Q) X.xe s := by
 have hq := h (s.heap.objs.size + 1) s.heap.objs.size (I.hok.fresh (Nat.le_succ _)) (I.hok.fresh (Nat.le_refl _)) (Nat.ne_of_lt (Nat.lt_succ_self _))
 have I2 := Inv.made (C := C) I
 have r2 : Vals (V.ref (s.heap.objs.size + 1) :: (vs ++ dvs)) (Value.ref (s.heap.objs.size + 1) :: (us ++ ds)) := .cons rfl (r.append hd)
 have hl : (Value.ref (s.heap.objs.size + 1) :: us ++ ds).length = ps.length := by
  have e := r2.length
  rw [F.len _ _ _ _ hq] at e
  exact e.symm
 refine wpAny_call (Qjx (f := f) I.kIn M.makes M.init (beq_iff_eq.mp M.fn) (codeAny_mono (F.run _ X.stack _ _ ⟨Value.ref (s.heap.objs.size + 1) :: us, []⟩ (Value.ref (s.heap.objs.size + 1) :: (us ++ ds)) _ _ E (hr.make C us [])
  (I2.env0.make C us []) (hb _ (Value.ref (s.heap.objs.size + 1) :: us) I2.kIn hl) r2 hq) fun r s' hq' => ?_))
 cases r with
 | error e => exact hx pins σ _ _ e s' I2 hq'
 | ok fl =>
  cases fl with
  | ret u =>
   obtain ⟨v, H', I3, rv, ev, q3⟩ := I2.after hq'
   subst ev
   exact ⟨rv, ⟨V.ref (s.heap.objs.size + 1), H', I3, rfl, q3⟩⟩
  | next => exact False.elim hq'
  | brk => exact False.elim hq'
  | cont => exact False.elim hq'
theorem Qic (M : Mk X.K C f) (F : FnOk X.prog X.w X.K X.mg X.base CX k f fd ps sp) (hr : Room (k + 1) X.A) (hg : Gl X x) (hm : X.mg x = some (.ref C)) (hb : Binds X.K fd ps ds) (hd : Vals dvs ds) (hx : QeD CX X E)
  (ha : PA X (e :: es) t) (hdb : (x == ("__debug__" : Str)) = false := by decide) (he : starEach (e :: es) X.env = (false, eval e X.env) :: starEach es X.env := by rfl) (hpl : (backTo pos (starEach es X.env)).any (·.1) = false := by rfl) :
  PE X (.Call (.Name x p) (e :: es) [] pos) (tMake C sp dvs E t) := by
 intro pins s σ H Q I h
 refine wpAny_Call_Name_kw (Qfw I hg hm ?_ hdb)
 refine PySem.W.callWith_K (h₀ := X.base) I.ok.mod.kin M.kp (thn (ha pos pins s σ H _ I h) fun us s1 ⟨vs, H1, I1, r, q⟩ => ⟨I1.kIn, ?_⟩) he hpl
 exact Qji M F hr hb hd hx I1 r q
end
section
variable {X : Cx} {CX : CXT} {k : Nat} {f C : Addr} {fd : FuncData} {ps ks : List Str} {sp : Sp} {E : XK} {x m : Str} {p pos apos kpos : Pos} {e o : Expr} {es : List Expr} {kws : List Keyword} {te ta : TE} {t tk : TA} {nm : Option Str}
variable {g : List Value → List Value → List Value} {gV : List V → List V → List V}
end
structure Qj (N P : List Str) (sc : Scope) : Prop where
 kind : sc.kind = .function
 co : sc.isCoroutine = false
 gen : sc.isGenerator = false
 nd : N.Nodup
 pre : N.take P.length = P
 par : ∀ x ∈ P, sc.names.lookup x = some .local ∨ sc.names.lookup x = some .cell
 nofree : ∀ y ∈ sc.names, y.2 ≠ .free
theorem Qgl {kindOf : Str → Option NameKind} {x : Str} : ∀ {binds : List (Str × Value)} {m : Str → Option Value}, (∀ v, (x, v) ∉ binds) → bindL kindOf binds m x = m x
 | [], _, _ => rfl
 | (n, v) :: r, m, h => by
  unfold bindL
  rw [Qgl fun w hw => h w (List.mem_cons_of_mem _ hw)]
  split
  ·have : x ≠ n := by rintro rfl; exact h v List.mem_cons_self
   simp [this]
  ·rfl
theorem Qgn {kindOf : Str → Option NameKind} {x : Str} : ∀ {binds : List (Str × Value)} {m : Str → Option Value}, (∀ v, (x, v) ∉ binds) → bindC kindOf binds m x = m x
 | [], _, _ => rfl
 | (n, v) :: r, m, h => by
  unfold bindC
  rw [Qgn fun w hw => h w (List.mem_cons_of_mem _ hw)]
  split
  ·rfl
  ·have : x ≠ n := by rintro rfl; exact h v List.mem_cons_self
   simp [this]
theorem Qgm {kindOf : Str → Option NameKind} {x : Str} {v : Value} : ∀ {P : List Str} {vs : List Value} {i : Nat} {m : Str → Option Value}, P.Nodup → P[i]? = some x → vs[i]? = some v → kindOf x = some .local →
  bindL kindOf (P.zip vs) m x = some v
 | [], _, _, _, _, h, _, _ => by simp at h
 | _ :: _, [], _, _, _, _, h, _ => by simp at h
 | p :: P, w :: vs, 0, m, nd, h1, h2, hk => by
  simp at h1 h2; subst h1; subst h2
  show bindL kindOf ((p, w) :: P.zip vs) m p = _
  unfold bindL
  rw [Qgl fun v hv => (List.nodup_cons.mp nd).1 (List.of_mem_zip hv).1, if_pos hk]
  simp
 | p :: P, w :: vs, i + 1, m, nd, h1, h2, hk => by
  show bindL kindOf ((p, w) :: P.zip vs) m x = _
  unfold bindL
  exact Qgm (i := i) (List.nodup_cons.mp nd).2 (by simpa using h1) (by simpa using h2) hk
theorem Qgo {kindOf : Str → Option NameKind} {x : Str} {v : Value} : ∀ {P : List Str} {vs : List Value} {i : Nat} {m : Str → Option Value}, P.Nodup → P[i]? = some x → vs[i]? = some v → kindOf x ≠ some .local →
  bindC kindOf (P.zip vs) m x = some v
 | [], _, _, _, _, h, _, _ => by simp at h
 | _ :: _, [], _, _, _, _, h, _ => by simp at h
 | p :: P, w :: vs, 0, m, nd, h1, h2, hk => by
  simp at h1 h2; subst h1; subst h2
  show bindC kindOf ((p, w) :: P.zip vs) m p = _
  unfold bindC
  rw [Qgn fun v hv => (List.nodup_cons.mp nd).1 (List.of_mem_zip hv).1, if_neg hk]
  simp
 | p :: P, w :: vs, i + 1, m, nd, h1, h2, hk => by
  show bindC kindOf ((p, w) :: P.zip vs) m x = _
  unfold bindC
  exact Qgo (i := i) (List.nodup_cons.mp nd).2 (by simpa using h1) (by simpa using h2) hk
def start (N : List Str) (vs : List V) : St := vs.map some ++ List.replicate (N.length - vs.length) none
def QkP (CX : CXT) (P : Program) (w : World) (K : Fg) (mg : Str → Option Value) (base : Heap) (N : List Str) (qual : Str) (scope : Scope) (f : Addr) (cd : Value) (A : Around) (outer : List Env) (s : Shared) (H : Hp) (E : XK) : Cx where
 prog := P
 w := w
 K := K
 mg := mg
 base := base
 A := A.deeper (envOfC qual scope s.heap.objs.size f cd)
 N := N
 s₀ := s
 H₀ := H
 env := envOfC qual scope s.heap.objs.size f cd
 outer := outer
 stack := envOfC qual scope s.heap.objs.size f cd :: outer
 ex := []
 calm := true
 fn := fun _ => true
 pn := []
 xe := fun e s' => wpAny (model P w) (A.deeper (envOfC qual scope s.heap.objs.size f cd)) (leaving (envOfC qual scope s.heap.objs.size f cd) e) (fun _ s'' => CX outer H s E e s'') (fun e' s'' => CX outer H s E e' s'') s'
theorem Qhc {sc : Scope} {n : Nat} {x : Str} (h : sc.names.lookup x = some .cell) : ∃ c, (cellsFrom n sc.names []).lookup x = some c := by
 have q := PySem.W.cellsFrom_some sc.names n [] (.inl h)
 exact Option.isSome_iff_exists.mp q
theorem Qix {CX : CXT} {P : Program} {w : World} {K : Fg} {mg : Str → Option Value} {base : Heap} {N ps : List Str} {qual : Str} {scope : Scope} {f : Addr} {cd : Value} {A : Around} {outer : List Env} {s s1 : Shared} {H : Hp} {E : XK} {us : List Value} {vs : List V}
  (S : Qj N ps scope) (hd : A.handled = none) (e0 : Env0 P w K mg base A outer s H) (hl : vs.length = ps.length) (r : Vals vs us)
  (x : InCallC s s.heap.objs.size (bindL (envOfC qual scope s.heap.objs.size f cd).kindOf (ps.zip us) fun _ => none) (cellsFrom (s.heap.objs.size + 1) scope.names []) (bindC (envOfC qual scope s.heap.objs.size f cd).kindOf (ps.zip us) fun _ => none) s1) :
  Inv (QkP CX P w K mg base N qual scope f cd A outer s H E) [] (start N vs) H s1 := by
 have hpl : ps.length ≤ N.length := by have := congrArg List.length S.pre; rw [List.length_take] at this; omega
 obtain ⟨h1, tk, rfl, hk⟩ := x.done
 have noA : ∀ b : Addr, b ∉ (QkP CX P w K mg base N qual scope f cd A outer s H E).ex := fun b z => absurd (show b ∈ ([] : List Addr) from z) (by simp)
 refine ⟨⟨e0.mod, S.kind, rfl, rfl, Nat.le_refl _, fun y z c h1 h2 => ?_, fun y hy => ?_, fun y c _ h => ?_, fun _ => hd, Around.frames_deeper e0.frames, .inr ⟨rfl, rfl⟩, fun b z => absurd z (noA b), e0.bs, e0.bsz, fun b _ _ => noA b, fun b z => absurd z (noA b), e0.funs, e0.frf⟩,
  rfl, e0.bare, Un.kept hk, ⟨_, x.toInCall.ns, fun i y v h1 h2 h3 => ?_⟩, fun y c h => ⟨_, x.cell y c h⟩, e0.hok.fresh (Nat.le_refl _), fun y c h => ?_, fun p hp => absurd (show p ∈ ([] : Pn) from hp) (by simp), e0.hok.kept hk, ?_⟩
 ·exact name_of_addr x.apart (PySem.mem_of_lookup h1) (PySem.mem_of_lookup h2)
 ·have hy : scope.names.lookup y = some .cell ∨ scope.names.lookup y = some .free := hy
  rcases hy with hy | hy
  ·exact Qhc hy
  ·exact absurd rfl (S.nofree _ (PySem.mem_of_lookup hy))
 ·exact Nat.le_of_lt (x.above y c (PySem.mem_of_lookup h))
 ·have hi : i < vs.length := by
   unfold start at h2
   by_cases hi : i < vs.length
   ·exact hi
   ·rw [List.getElem?_append_right (by simpa using hi)] at h2
    rw [List.getElem?_replicate] at h2
    split at h2 <;> cases h2
  have ha : vs[i]? = some v := by
   unfold start at h2
   rw [List.getElem?_append_left (by simpa using hi), List.getElem?_map] at h2
   cases e : vs[i]? with
   | none => rw [e] at h2; cases h2
   | some a => rw [e] at h2; cases h2; rfl
  obtain ⟨u, hu, rv⟩ := r.get ha
  have hp : ps[i]? = some y := by
   rw [← S.pre, List.getElem?_take_of_lt (by omega)]; exact h1
  have ndP : ps.Nodup := by rw [← S.pre]; exact S.nd.sublist (List.take_sublist _ _)
  refine ⟨u, rv, ?_⟩
  rcases S.par y (List.mem_of_getElem? hp) with k | k
  ·exact .inl ⟨k, Qgm ndP hp hu k⟩
  ·obtain ⟨c, e⟩ := Qhc (n := s.heap.objs.size + 1) k
   refine .inr ⟨.inl k, c, e, ?_⟩
   have q := x.cell y c e
   rw [Qgo ndP hp hu (by show scope.names.lookup y ≠ _; rw [k]; decide)] at q
   exact q
 ·exact e0.hok.fresh (Nat.le_of_lt (x.above y c (PySem.mem_of_lookup h)))
 ·unfold start
  show _ = N.length
  rw [List.length_append, List.length_map, List.length_replicate]
  omega
theorem fn_of {CX : CXT} {P : Program} {w : World} {K : Fg} {mg : Str → Option Value} {base : Heap} {k : Nat} {f : Addr} {name qual : Str} {params : Arguments} {body : List Stmt} {scope : Scope} {dV kV doc pm cdv ct oc : Value} {an od : Option Addr}
  {osl : Array (Option Value)} {N ps : List Str} {sp : Sp} (lk : K.lookup f = some ⟨oc, od, .func (PySem.W.fnOf name qual params body scope dV kV doc pm an cdv ct), osl⟩) (hcd : PySem.W.codeIn K cdv qual = true) (S : Qj N ps scope)
  (len : ∀ vs H Q E, sp vs H Q E → vs.length = ps.length)
  (hbody : ∀ (A : Around) (outer : List Env) (s : Shared) (H : Hp) (vs : List V) (Q : VK) (E : XK), Room k (A.deeper (envOfC qual scope s.heap.objs.size f cdv)) → sp vs H Q E →
   ∃ t, PSs (QkP CX P w K mg base N qual scope f cdv A outer s H E) body t ∧ t { nx := fun _ H' => Q .non H', rt := Q } (start N vs) H) :
  FnOk P w K mg base CX (k + 1) f (PySem.W.fnOf name qual params body scope dV kV doc pm an cdv ct) ps sp := by
 refine ⟨len, fun A outer s H args us vs Q E hr e0 hb r hsp => ?_⟩
 have hl := len _ _ _ _ hsp
 have KX : K.In s.heap := e0.mod.kin.keeps fun b o e => (e0.bs b o e).1
 have lim : s.heap.NoLimit := e0.mod.nolimit.keeps fun b o e => (e0.bs b o e).1
 have hkind : ∀ y ∈ ps.zip us, scope.names.lookup y.1 = some .local ∨ (scope.names.lookup y.1 = some .cell ∧ ((cellsFrom (s.heap.objs.size + 1) scope.names []).lookup y.1).isSome = true) := fun ⟨n, v⟩ hy => by
  rcases S.par n (List.of_mem_zip hy).1 with q | q
  ·exact .inl q
  ·exact .inr ⟨q, PySem.W.cellsFrom_some _ _ _ (.inl q)⟩
 refine codeAny_call_function hr.depth (KX _ _ lk) rfl S.co S.gen rfl (PySem.W.codeRec_of KX hcd) (hb _ _ _ _ ?_)
 refine wpAny_newFunctionEnv_cells S.kind hkind fun env he s1 x => ?_
 subst he
 refine ⟨lim.keeps x.toInCall.keep, codeAny_func ?_⟩
 obtain ⟨t, ht, hq⟩ := hbody A outer s H vs Q E (hr.deeper _) hsp
 have I : Inv (QkP CX P w K mg base N qual scope f cdv A outer s H E) [] (start N vs) H s1 := Qix S hr.hd e0 hl r x
 refine wpAny_mono (ht [] s1 (start N vs) H _ I hq) (fun fl s' hs => ?_) fun e s' hs => hs
 have fin : ∀ {σ' : St} {H' : Hp} {v : V} {u : Value}, Inv (QkP CX P w K mg base N qual scope f cdv A outer s H E) [] σ' H' s' → RelV v u → Q v H' → CE outer P w H s Q u s' :=
  fun {σ' H' v u} J rv q => ⟨v, H', J.os, J.bare, J.base, J.hok, rv, q⟩
 cases fl with
 | ret u =>
  obtain ⟨v, σ', H', J, rv, q⟩ := hs
  exact fin J rv q
 | next =>
  obtain ⟨σ', H', J, q⟩ := hs
  exact fin (v := V.non) (u := Value.none) J rfl q
 | brk =>
  obtain ⟨_, _, _, q⟩ := hs
  exact False.elim q
 | cont =>
  obtain ⟨_, _, _, q⟩ := hs
  exact False.elim q
end L2
namespace L2
open PySem PySem.Spec PyProof.Rows
section
variable {X : Cx} {x : Str} {p pos : Pos} {e : Expr} {es : List Expr} {t : TA} {id T : String} {r : List V → Hp → VK → Prop}
def tCB (r : List V → Hp → VK → Prop) (t : TA) : TE := fun σ H Q => t σ H fun vs H1 => r vs H1 Q
theorem Qy (hc : QeE X (.builtin id) r) (hg : Gl X x) (hm : X.mg x = none) (hv : bootBuiltins x = some (.builtin id)) (ha : PA X (e :: es) t) (hn : x ≠ "__name__" := by decide) (hdb : (x == ("__debug__" : Str)) = false := by decide)
  (he : starEach (e :: es) X.env = (false, eval e X.env) :: starEach es X.env := by rfl) (hpl : (backTo pos (starEach es X.env)).any (·.1) = false := by rfl) : PE X (.Call (.Name x p) (e :: es) [] pos) (tCB r t) := by
 intro pins s σ H Q I h
 refine wpAny_Call_Name_kw (Qex I hg hm hv ?_ hn hdb)
 exact PyProof.Rows.callWith_builtin1 (thn (ha pos pins s σ H _ I h) fun us s1 ⟨vs, H1, I1, r1, q1⟩ => hc pins s1 σ H1 vs us Q I1 r1 q1) he hpl
theorem QcE (hc : QeE X (.type T) r) (hg : Gl X x) (hm : X.mg x = none) (hv : bootBuiltins x = some (.type T)) (ha : PA X (e :: es) t) (hn : x ≠ "__name__" := by decide) (hdb : (x == ("__debug__" : Str)) = false := by decide)
  (he : starEach (e :: es) X.env = (false, eval e X.env) :: starEach es X.env := by rfl) (hpl : (backTo pos (starEach es X.env)).any (·.1) = false := by rfl) : PE X (.Call (.Name x p) (e :: es) [] pos) (tCB r t) := by
 intro pins s σ H Q I h
 refine wpAny_Call_Name_kw (Qex I hg hm hv ?_ hn hdb)
 exact PyProof.Rows.callWith_type1 (thn (ha pos pins s σ H _ I h) fun us s1 ⟨vs, H1, I1, r1, q1⟩ => hc pins s1 σ H1 vs us Q I1 r1 q1) he hpl
end
end L2
namespace HT
open PySem PyProof.Rows
section
open PySem.SeqAt
open PySem.AutoSeq1 (wpAny_loadPart')
open PySem.MeetsSeq PySem.MeetsSeq2 PySem.MeetsSeq3
end
section
variable {prog : Program} {w : World} {A : Around} {E : Value → Shared → Prop} {s : Shared}
def sIx (n d : Nat) : Option Int → Nat
 | none => d
 | some v => if v < 0 then (v + (n : Int)).toNat else min v.toNat n
end
end HT
namespace L2
open PySem PySem.Spec PyProof.Rows
abbrev TO := St → Hp → (Option Int → Hp → Prop) → Prop
def PO (X : Cx) (e : Option Expr) (t : TO) : Prop :=
 ∀ (pins : Pn) (s : Shared) (σ : St) (H : Hp) (Q : Option Int → Hp → Prop), Inv X pins σ H s → t σ H Q →
  wpAny (model X.prog X.w) X.A (evalPart e X.env) (fun u s' => ∃ o H', Inv X pins σ H' s' ∧ IsPart u o ∧ Q o H') X.xe s
def Qkh : TO := fun _ H Q => Q none H
def tPart (t : TE) : TO := fun σ H Q => t σ H fun x H1 => ∃ i, x = .int i ∧ Q (some i) H1
theorem Qht {ns : List Int} : ∀ {us : List Value}, Vals (ns.map V.int) us → IntsAre us ns := by
 induction ns with
 | nil => intro us r; rw [List.map_nil] at r; cases r; exact .nil
 | cons n ns ih =>
  intro us r
  rw [List.map_cons] at r
  cases r with
  | cons r1 r2 =>
   obtain ⟨t, e⟩ := r1
   subst e
   exact .cons n t (ih r2)
section
variable {X : Cx} {e : Expr} {te : TE} {lo hi : Option Expr} {tl th : TO} {pos p2 : Pos}
theorem Qkz : PO X none Qkh := by
 intro pins s σ H Q I h
 rw [evalPart_none]
 exact wpAny_pure ⟨none, H, I, .none, h⟩
theorem Qky (h : PE X e te) : PO X (some e) (tPart te) := by
 intro pins s σ H Q I hw
 rw [evalPart_some]
 refine thn (h pins s σ H _ I hw) fun u s1 ⟨x, H1, I1, r1, q1⟩ => ?_
 obtain ⟨i, rfl, q⟩ := q1
 obtain ⟨t, rfl⟩ := r1
 exact ⟨some i, H1, I1, .int i t, q⟩
def SlR (X : Cx) (r : V → Option Int → Option Int → Hp → VK → Prop) : Prop :=
 ∀ (pins : Pn) (s : Shared) (σ : St) (H : Hp) (x : V) (v vl vu : Value) (lo hi : Option Int) (sl : Addr) (Q : VK), Inv X pins σ H s → RelV x v → s.heap.IsSliceOf sl vl vu .none → IsPart vl lo → IsPart vu hi → r x lo hi H Q →
  ∃ T id, typeLookup (.type T) "__getitem__" = pure (some (.builtin id)) ∧ s.TypeIs v T ∧ wpAny (model X.prog X.w) X.A (getItem v (.ref sl)) (EP X pins σ Q) X.xe s
def tSl (r : V → Option Int → Option Int → Hp → VK → Prop) (te : TE) (tl th : TO) : TE := fun σ H Q => te σ H fun x H1 => tl σ H1 fun l H2 => th σ H2 fun u H3 => r x l u H3 Q
theorem Qjn {r : V → Option Int → Option Int → Hp → VK → Prop} (hr : SlR X r) (he : PE X e te) (hl : PO X lo tl) (hu : PO X hi th) : PE X (.Subscript e (.Slice lo hi none p2) pos) (tSl r te tl th) := by
 intro pins s σ H Q I h
 refine Subscript_ (thn (he pins s σ H _ I h) fun v s1 ⟨x, H1, I1, r1, q1⟩ => ?_)
 refine wpAny_Slice (thn (hl pins s1 σ H1 _ I1 q1) fun vl s2 ⟨l, H2, I2, pl, q2⟩ => thn (hu pins s2 σ H2 _ I2 q2) fun vu s3 ⟨u, H3, I3, pu, q3⟩ => ?_)
 rw [evalPart_none]
 refine wpAny_pure ?_
 have I4 : Inv X pins σ H3 { s3 with heap := s3.heap.push { cls := .type "slice", data := .fields #[vl, vu, .none] } } := I3.kept (t' := s3.toks) fun b ob q => Heap.get?_push_of_some _ q
 obtain ⟨T, id, hT, ht, hg⟩ := hr pins { s3 with heap := s3.heap.push { cls := .type "slice", data := .fields #[vl, vu, .none] } } σ H3 x v vl vu l u s3.heap.objs.size Q I4 r1 (Heap.IsSliceOf.new ..) pl pu q3
 show wpAny (model X.prog X.w) X.A (subscriptTail e (.Slice lo hi none p2) v (.ref s3.heap.objs.size)) (EP X pins σ Q) X.xe { s3 with heap := s3.heap.push { cls := .type "slice", data := .fields #[vl, vu, .none] } }
 exact tail_any (ops := [.ref s3.heap.objs.size, v]) ht hT hg (by with_unfolding_all rfl)
def Qi6 (xs : List V) (lo hi : Option Int) : List V := (xs.drop (HT.sIx xs.length 0 lo)).take (HT.sIx xs.length xs.length hi - HT.sIx xs.length 0 lo)
theorem QgO (xs : List V) (lo hi : Option Int) : (Qi6 xs lo hi).length ≤ xs.length := by
 unfold Qi6
 rw [List.length_take, List.length_drop]
 omega
end
end L2
namespace L2
open PySem PySem.Spec PyProof.Rows
def ixN (n : Nat) (i : Int) : Option Nat := if 0 ≤ i then (if i < n then some i.toNat else none) else if -(n : Int) ≤ i then some (i + n).toNat else none
def atI {α : Type} (xs : List α) (i : Int) : Option α := (ixN xs.length i).bind fun j => xs[j]?
theorem Qiu {n : Nat} {i : Int} {j : Nat} (h : ixN n i = some j) : seqIndex? i n = some j ∧ j < n ∧ -(n : Int) ≤ i ∧ i < n := by
 unfold ixN at h
 by_cases h0 : 0 ≤ i
 ·rw [if_pos h0] at h
  by_cases h1 : i < n
  ·rw [if_pos h1] at h
   have e : i.toNat = j := Option.some.inj h
   exact ⟨by rw [seqIndex_of h0 h1, e], by omega, by omega, h1⟩
  ·rw [if_neg h1] at h; cases h
 ·rw [if_neg h0] at h
  by_cases h1 : -(n : Int) ≤ i
  ·rw [if_pos h1] at h
   have e : (i + n).toNat = j := Option.some.inj h
   exact ⟨by rw [seqIndex_neg (by omega) h1, e], by omega, h1, by omega⟩
  ·rw [if_neg h1] at h; cases h
theorem Qi0 {α : Type} {xs : List α} {i : Int} {v : α} (h : atI xs i = some v) : ∃ j, seqIndex? i xs.length = some j ∧ xs[j]? = some v ∧ j < xs.length ∧ -(xs.length : Int) ≤ i ∧ i < xs.length := by
 unfold atI at h
 cases e : ixN xs.length i with
 | none => rw [e] at h; cases h
 | some j =>
  rw [e] at h
  obtain ⟨h1, h2, h3, h4⟩ := Qiu e
  exact ⟨j, h1, h, h2, h3, h4⟩
theorem Zh {α : Type} {xs : List α} {j : Nat} {v : α} (h : xs[j]? = some v) : atI xs (j : Int) = some v := by
 have hj : j < xs.length := (List.getElem?_eq_some_iff.mp h).1
 have e : ixN xs.length (j : Int) = some j := by
  unfold ixN
  rw [if_pos (by omega), if_pos (by omega)]; simp
 unfold atI; rw [e]; exact h
def QkS (b : Expr) : Prop := ∀ o i, subscripted b false o i = operate [o, i] (getItem o i)
def IxR (X : Cx) (r : R2) : Prop :=
 ∀ (value slice : Expr) (pins : Pn) (s : Shared) (σ : St) (H : Hp) (x y : V) (v u : Value) (Q : VK), Inv X pins σ H s → RelV x v → RelV y u → r x y H Q →
  subscripted slice false v u = operate [v, u] (getItem v u) → wpAny (model X.prog X.w) X.A (subscriptTail value slice v u) (EP X pins σ Q) X.xe s
def MtR (X : Cx) (id : String) (r : V → List V → Hp → VK → Prop) : Prop :=
 ∀ (pins : Pn) (s : Shared) (σ : St) (H : Hp) (x : V) (xs : List V) (v : Value) (us : List Value) (Q : VK), Inv X pins σ H s → RelV x v → Vals xs us → r x xs H Q →
  wpAny (model X.prog X.w) X.A (call (.builtin id) (v :: us)) (EP X pins σ Q) X.xe s
section
variable {X : Cx} {a b : Expr} {ta tb : TE} {pos : Pos}
theorem QG {r : R2} (hr : IxR X r) (ha : PE X a ta) (hb : PE X b tb) (hs : QkS b) : PE X (.Subscript a b pos) (tOp r ta tb) := by
 intro pins s σ H Q I h
 exact Subscript_ (binT ha hb I h fun v u s2 x y H2 I2 rx ry q => hr a b pins s2 σ H2 x y v u Q I2 rx ry q (hs _ _))
def rIxL (K : Fg) : R2 := fun x y H Q => ∃ p xs i v, x = .ref p ∧ y = .int i ∧ SqL K H p xs ∧ atI xs i = some v ∧ Q v H
def rIxT (K : Fg) : R2 := fun x y H Q => ∃ p xs i v, x = .ref p ∧ y = .int i ∧ SqT K H p xs ∧ atI xs i = some v ∧ Q v H
theorem QI : IxR X (rIxL X.K) := by
 intro value slice pins s σ H x y v u Q I rx ry h hs
 obtain ⟨p, xs, i, z, rfl, rfl, hq, he, q⟩ := h
 cases rx
 obtain ⟨t, rfl⟩ := ry
 obtain ⟨its, r, pl, hz⟩ := I.list hq
 obtain ⟨j, h1, h2, h3, h4, h5⟩ := Qi0 he
 obtain ⟨w, ew, rw'⟩ := r.get h2
 have hl := r.length
 have hn := Qg8
 have fin : EP X pins σ Q w s := ⟨z, H, I, rw', q⟩
 by_cases h0 : 0 ≤ i
 ·have hj : i.toNat = j := by
   rw [seqIndex_of h0 h5] at h1
   exact Option.some.inj h1
  exact item_listR pl.isList h0 (by omega) (by rw [hj]; simpa using ew) fin hs
 ·have hj : (i + (its.toArray.size : Int)).toNat = j := by
   rw [seqIndex_neg (by omega) h4] at h1
   rw [List.size_toArray, ← hl]
   exact Option.some.inj h1
  exact subscriptTail_builtinR (x := w) pl.isList.typeIs slot_list_getitem.lookup
   (wpAny_getItem_list_neg (Q := fun r s' => r = w ∧ EP X pins σ Q r s') pl.isList (by omega) (by rw [List.size_toArray] <;> omega) (by omega) (by rw [hj]; simpa using ew) ⟨rfl, fin⟩) hs
theorem Q7 : IxR X (rIxT X.K) := by
 intro value slice pins s σ H x y v u Q I rx ry h hs
 obtain ⟨p, xs, i, z, rfl, rfl, hq, he, q⟩ := h
 cases rx
 obtain ⟨t, rfl⟩ := ry
 obtain ⟨its, r, pl, hz⟩ := I.tuple hq
 obtain ⟨j, h1, h2, h3, h4, h5⟩ := Qi0 he
 obtain ⟨w, ew, rw'⟩ := r.get h2
 have hl := r.length
 have hn := Qg8
 have fin : EP X pins σ Q w s := ⟨z, H, I, rw', q⟩
 exact subscriptTail_builtinR (x := w) pl.typeIs slot_tuple_getitem.lookup
  (getItem_tuple (j := j) (Q := fun r s' => r = w ∧ EP X pins σ Q r s') pl (by omega) (by omega) (by rw [List.size_toArray, ← hl]; exact h1) (by simpa using ew) ⟨rfl, fin⟩) hs
theorem Qhp (its : List Value) (n j : Nat) (u : Value) : Obj.mapSeq (·.setIfInBounds j u) { cls := .type "list", data := .seq its.toArray n } = { cls := .type "list", data := .seq (its.set j u).toArray n } := by
 simp [Obj.mapSeq]
theorem Inv.lst {pins : Pn} {σ : St} {H : Hp} {s : Shared} {p : Addr} {xs : List V} (I : Inv X pins σ H s) (h : H p = some (.lst xs)) :
  ∃ (its : List Value) (n : Nat), Vals xs its ∧ s.heap.get? p = some { cls := .type "list", data := .seq its.toArray n } ∧ xs.length ≤ sizeLine := by
 obtain ⟨z, its, n, r, e⟩ := I.hok p _ h
 exact ⟨its, n, r, e, z⟩
theorem Inv.lstUpd {pins : Pn} {σ : St} {H : Hp} {s : Shared} {p : Addr} {xs ys : List V} {its its' : List Value} {n n' : Nat} {f : Obj → Obj} (I : Inv X pins σ H s) (h : H p = some (.lst xs))
  (ho : s.heap.get? p = some { cls := .type "list", data := .seq its.toArray n }) (hf : f { cls := .type "list", data := .seq its.toArray n } = { cls := .type "list", data := .seq its'.toArray n' }) (r : Vals ys its') (hz : ys.length ≤ sizeLine) (t : Nat) :
  Inv X pins σ (upd H p (.lst ys)) { s with heap := s.heap.update p f, toks := t } := by
 have e : (s.heap.update p f).get? p = some { cls := .type "list", data := .seq its'.toArray n' } := by
  rw [Heap.get?_update_self f ho (by rw [hf] <;> rfl), hf]
 refine I.write (x := p) (e := p) (by rw [h]; trivial) (.inl rfl) (fun b u hb q => (Heap.get?_update_other _ _ (Ne.symm hb)).trans q) ⟨_, e⟩ ?_
 exact ⟨hz, its', n', r, e⟩
def rSetL : V → V → V → Hp → (Hp → Prop) → Prop := fun o i v H Q => ∃ p xs k j, o = .ref p ∧ i = .int k ∧ H p = some (.lst xs) ∧ ixN xs.length k = some j ∧ Q (upd H p (.lst (xs.set j v)))
theorem QdF : PSet X rSetL := by
 intro pins s σ H o i v ov iv u Q I ro ri rv h
 obtain ⟨p, xs, k, j, rfl, rfl, hp, hj, q⟩ := h
 cases ro
 obtain ⟨t, rfl⟩ := ri
 obtain ⟨its, n, r, ho, hz⟩ := I.lst hp
 obtain ⟨h1, h2, h3, h4⟩ := Qiu hj
 have hl := r.length
 have hn := Qg8
 have I' : Inv X pins σ (upd H p (.lst (xs.set j v))) { s with heap := s.heap.update p (Obj.mapSeq (·.setIfInBounds j u)) } :=
  I.lstUpd hp ho (Qhp its n j u) (r.set rv j) (by rw [List.length_set]; exact hz) s.toks
 by_cases h0 : 0 ≤ k
 ·have hk : k.toNat = j := by
   rw [seqIndex_of h0 h4] at h1
   exact Option.some.inj h1
  exact PySem.W.ki_setAt ho h0 (by omega) (by rw [List.size_toArray, ← hl]; exact h4) (by rw [hk]; exact ⟨_, I', q⟩)
 ·have hk : (k + (its.toArray.size : Int)).toNat = j := by
   rw [seqIndex_neg (by omega) h3] at h1
   rw [List.size_toArray, ← hl]
   exact Option.some.inj h1
  exact PySem.W.ki_setBack ho (by omega) (by rw [List.size_toArray, ← hl]; exact h3) (by omega) (by rw [hk]; exact ⟨_, I', q⟩)
theorem QfT (lo hi : Option Int) (n : Nat) : (sliceBounds lo hi none n).1 = ((HT.sIx n 0 lo : Nat) : Int) ∧ (sliceBounds lo hi none n).2.1 = ((HT.sIx n n hi : Nat) : Int) ∧ (sliceBounds lo hi none n).2.2 = 1 := by
 refine ⟨?_, ?_, rfl⟩
 ·cases lo with
  | none => simp [sliceBounds, HT.sIx]
  | some i =>
   simp only [sliceBounds, HT.sIx, Option.getD_none, show (1 : Int) > 0 by decide, if_true]
   by_cases h : i < 0
   ·simp only [h, if_true] <;> omega
   ·simp only [h, if_false] <;> omega
 ·cases hi with
  | none => simp [sliceBounds, HT.sIx]
  | some i =>
   simp only [sliceBounds, HT.sIx, Option.getD_none, show (1 : Int) > 0 by decide, if_true]
   by_cases h : i < 0
   ·simp only [h, if_true] <;> omega
   ·simp only [h, if_false] <;> omega
theorem Qfe (its : List Value) (lo hi : Option Int) : slicePick its.toArray lo hi none = ((its.drop (HT.sIx its.length 0 lo)).take (HT.sIx its.length its.length hi - HT.sIx its.length 0 lo)).toArray := by
 obtain ⟨h1, h2, h3⟩ := QfT lo hi its.toArray.size
 unfold slicePick
 rw [h1, h2, h3]
 simp only [sliceRange_one, pick_run, List.size_toArray] <;> rfl
def rSlL (K : Fg) : V → Option Int → Option Int → Hp → VK → Prop := fun x lo hi H Q => ∃ a xs, x = .ref a ∧ SqL K H a xs ∧ ∀ p, H p = none → Q (.ref p) (upd H p (.lst (Qi6 xs lo hi)))
theorem Qkp : SlR X (rSlL X.K) := by
 intro pins s σ H x v vl vu lo hi sl Q I rx hs pl pu h
 obtain ⟨a, xs, rfl, hx, q⟩ := h
 cases rx
 obtain ⟨its, r, ht, hz⟩ := I.list hx
 have hlen := r.length
 refine ⟨"list", _, slot_list_getitem.lookup, ht.isList.typeIs, ?_⟩
 refine wpAny_getItem_list_slice ht.isList hs pl pu .none (by simp) ?_ (by rw [List.size_toArray] <;> omega)
 rw [Qfe, ← hlen]
 refine ⟨.ref s.heap.objs.size, _, I.laid (t' := s.toks) (o := .lst (Qi6 xs lo hi)) (fun b ob q => Heap.get?_push_of_some _ q) (Nat.le_refl _) ?_, rfl, q _ (I.hok.fresh (Nat.le_refl _))⟩
 exact ⟨Nat.le_trans (QgO xs lo hi) hz, _, 0, (r.drop (HT.sIx xs.length 0 lo)).take (HT.sIx xs.length xs.length hi - HT.sIx xs.length 0 lo), Heap.get?_push_size _ rfl⟩
def Qc4 : V → Bool
 | .non => true
 | .bl _ => true
 | .int _ => true
 | .str _ => true
 | _ => false
def eqV : V → V → Bool
 | .non, .non => true
 | .bl a, .bl b => a == b
 | .bl a, .int b => (if a then 1 else 0) == b
 | .int a, .bl b => a == (if b then 1 else 0)
 | .int a, .int b => a == b
 | .str a, .str b => a == b
 | _, _ => false
theorem Qkb {A : Around} {s : Shared} {y x : V} {u v : Value} (ry : RelV y u) (rx : RelV x v) (fy : Qc4 y = true) (fx : Qc4 x = true) : SeqAt.EqAt A s u v (eqV y x) := by
 cases y with
 | non =>
  cases ry
  cases x with
  | non => cases rx; exact SeqAt.EqAt.same _
  | bl b => cases rx; exact SeqAt.EqAt.none_bool b
  | int b => obtain ⟨t, rfl⟩ := rx; exact SeqAt.EqAt.none_int b t
  | str b => obtain ⟨t, rfl⟩ := rx; exact SeqAt.EqAt.none_str b t
  | _ => exact absurd (show false = true from fx) Bool.false_ne_true
 | bl a =>
  cases ry
  cases x with
  | non => cases rx; exact SeqAt.EqAt.bool_none a
  | bl b => cases rx; exact SeqAt.EqAt.bool_bool a b
  | int b => obtain ⟨t, rfl⟩ := rx; exact SeqAt.EqAt.bool_int a b t
  | str b => obtain ⟨t, rfl⟩ := rx; exact SeqAt.EqAt.bool_str a b t
  | _ => exact absurd (show false = true from fx) Bool.false_ne_true
 | int a =>
  obtain ⟨t', rfl⟩ := ry
  cases x with
  | non => cases rx; exact SeqAt.EqAt.int_none a t'
  | bl b => cases rx; exact SeqAt.EqAt.int_bool a t' b
  | int b => obtain ⟨t, rfl⟩ := rx; exact SeqAt.EqAt.int_int a t' b t
  | str b => obtain ⟨t, rfl⟩ := rx; exact SeqAt.EqAt.int_str a t' b t
  | _ => exact absurd (show false = true from fx) Bool.false_ne_true
 | str a =>
  obtain ⟨t', rfl⟩ := ry
  cases x with
  | non => cases rx; exact SeqAt.EqAt.str_none a t'
  | bl b => cases rx; exact SeqAt.EqAt.str_bool a t' b
  | int b => obtain ⟨t, rfl⟩ := rx; exact SeqAt.EqAt.str_int a t' b t
  | str b => obtain ⟨t, rfl⟩ := rx; exact SeqAt.EqAt.str_str a t' b t
  | _ => exact absurd (show false = true from fx) Bool.false_ne_true
 | _ => exact absurd (show false = true from fy) Bool.false_ne_true
def eqU (x : V) (u : Value) : Bool := match u with
 | .none => eqV .non x
 | .bool b => eqV (.bl b) x
 | .int i _ => eqV (.int i) x
 | .str z _ => eqV (.str z) x
 | _ => false
theorem Qka {x y : V} {u : Value} (r : RelV y u) (f : Qc4 y = true) : eqU x u = eqV y x := by
 cases y with
 | non => cases r; rfl
 | bl b => cases r; rfl
 | int i => obtain ⟨t, rfl⟩ := r; rfl
 | str z => obtain ⟨t, rfl⟩ := r; rfl
 | _ => exact absurd (show false = true from f) Bool.false_ne_true
theorem QeC {x : V} : ∀ {xs : List V} {us : List Value}, Vals xs us → xs.all Qc4 = true → us.any (eqU x) = xs.any fun y => eqV y x
 | _, _, .nil, _ => rfl
 | y :: xs, u :: us, .cons r t, f => by
  rw [List.all_cons, Bool.and_eq_true] at f
  rw [List.any_cons, List.any_cons, Qka r f.1, QeC t f.2]
theorem QcK {A : Around} {s : Shared} {x : V} {v : Value} (rx : RelV x v) (fx : Qc4 x = true) : ∀ {xs : List V} {us : List Value}, Vals xs us → xs.all Qc4 = true → ∀ u ∈ us, SeqAt.EqAt A s u v (eqU x u)
 | _, _, .nil, _ => fun u hu => by cases hu
 | y :: xs, u :: us, .cons r t, f => fun u' hu => by
  rw [List.all_cons, Bool.and_eq_true] at f
  rcases List.mem_cons.mp hu with rfl | hu
  ·rw [Qka r f.1]; exact Qkb r rx f.1 fx
  ·exact QcK rx fx t f.2 u' hu
def inV (x : V) (xs : List V) : Bool := xs.any fun y => eqV y x
def rIn (K : Fg) (neg : Bool) : R2 := fun x y H Q => ∃ p xs, y = .ref p ∧ (SqL K H p xs ∨ SqT K H p xs) ∧ Qc4 x = true ∧ xs.all Qc4 = true ∧ Q (.bl (if neg then !inV x xs else inV x xs)) H
theorem Qij : OpR X (compareOp .In) (rIn X.K false) := by
 intro pins s σ H x y v u Q I rx ry h
 obtain ⟨p, xs, rfl, hq, fx, fs, q⟩ := h
 cases ry
 rcases hq with hq | hq
 ·obtain ⟨its, r, pl, hz⟩ := I.list hq
  refine SeqAt.in_listAt (eqU x) pl.isList (fun w hw => QcK rx fx r fs w (by simpa using hw)) ⟨.bl _, H, I, rfl, ?_⟩
  rw [show its.toArray.any (eqU x) = its.any (eqU x) by simp, QeC r fs]
  exact q
 ·obtain ⟨its, r, pl, hz⟩ := I.tuple hq
  refine SeqAt.in_tupleAt (eqU x) pl (fun w hw => QcK rx fx r fs w (by simpa using hw)) ⟨.bl _, H, I, rfl, ?_⟩
  rw [show its.toArray.any (eqU x) = its.any (eqU x) by simp, QeC r fs]
  exact q
theorem QaN : OpR X (compareOp .NotIn) (rIn X.K true) := by
 intro pins s σ H x y v u Q I rx ry h
 obtain ⟨p, xs, rfl, hq, fx, fs, q⟩ := h
 cases ry
 rcases hq with hq | hq
 ·obtain ⟨its, r, pl, hz⟩ := I.list hq
  refine SeqAt.notIn_listAt (eqU x) pl.isList (fun w hw => QcK rx fx r fs w (by simpa using hw)) ⟨.bl _, H, I, rfl, ?_⟩
  rw [show its.toArray.any (eqU x) = its.any (eqU x) by simp, QeC r fs]
  exact q
 ·obtain ⟨its, r, pl, hz⟩ := I.tuple hq
  refine SeqAt.notIn_tupleAt (eqU x) pl (fun w hw => QcK rx fx r fs w (by simpa using hw)) ⟨.bl _, H, I, rfl, ?_⟩
  rw [show its.toArray.any (eqU x) = its.any (eqU x) by simp, QeC r fs]
  exact q
theorem Qt : QeE X (.builtin "len") (fun xs H Q => ∃ p ys, xs = [.ref p] ∧ (SqL X.K H p ys ∨ SqT X.K H p ys) ∧ Q (.int ys.length) H) := by
 intro pins s σ H xs us Q I r h
 obtain ⟨p, ys, rfl, hq, q⟩ := h
 obtain ⟨u, rfl, rx⟩ := Qfa r
 cases rx
 have hn := Qg8
 rcases hq with hq | hq
 ·obtain ⟨its, r', pl, hz⟩ := I.list hq
  have hlen := r'.length
  exact Calls.call_len_list pl.isList (by simp only [List.size_toArray] <;> omega) ⟨.int ys.length, H, I.tok _, ⟨s.toks + 1, by rw [List.size_toArray, hlen]⟩, q⟩
 ·obtain ⟨its, r', pl, hz⟩ := I.tuple hq
  have hlen := r'.length
  exact len_tuple pl (by simp only [List.size_toArray] <;> omega) ⟨.int ys.length, H, I.tok _, ⟨s.toks + 1, by rw [List.size_toArray, hlen]⟩, q⟩
theorem Qdj : QeE X (.type "list") (fun xs H Q => ∃ p ys, xs = [.ref p] ∧ (SqL X.K H p ys ∨ SqT X.K H p ys) ∧ ∀ l, H l = none → Q (.ref l) (upd H l (.lst ys))) := by
 intro pins s σ H xs us Q I r h
 obtain ⟨p, ys, rfl, hq, q⟩ := h
 obtain ⟨u, rfl, rx⟩ := Qfa r
 cases rx
 have fin : ∀ (its : List Value), Vals ys its → ys.length ≤ sizeLine → ∀ (h' : Heap) (c' : Nat), (∀ b o', s.heap.get? b = some o' → h'.get? b = some o') →
   h'.get? s.heap.objs.size = some { cls := .type "list", dict := none, data := .seq its.toArray c', slots := #[] } → EP X pins σ Q (.ref s.heap.objs.size) { s with heap := h' } := fun its r' hz h' c' kp e =>
  ⟨.ref s.heap.objs.size, _, I.laid (t' := s.toks) kp (Nat.le_refl _) (show ObjOk X.prog X.w _ h' _ (.lst ys) from ⟨hz, its, c', r', e⟩), rfl, q _ (I.hok.fresh (Nat.le_refl _))⟩
 rcases hq with hq | hq
 ·obtain ⟨its, r', pl, hz⟩ := I.list hq
  have hlen := r'.length
  obtain ⟨o, ho, hc, n, hd⟩ := pl.isList
  exact call_list_seq p (.inl rfl) ho hc hd (fun h' c' kp e => fin its r' hz h' c' kp e) (by simp only [List.size_toArray] <;> omega)
 ·obtain ⟨its, r', pl, hz⟩ := I.tuple hq
  have hlen := r'.length
  obtain ⟨o, ho, hc, n, hd⟩ := pl
  exact call_list_seq p (.inr rfl) ho hc hd (fun h' c' kp e => fin its r' hz h' c' kp e) (by simp only [List.size_toArray] <;> omega)
def tyV (K : Fg) (T : String) (x : V) (H : Hp) : Prop := match x with
 | .str _ => T = "str"
 | .int _ => T = "int"
 | .ref p => (T = "list" ∧ ∃ xs, SqL K H p xs) ∨ (T = "tuple" ∧ ∃ o, K.lookup p = some o ∧ o.cls = .type "tuple" ∧ o.dict = none) ∨
   (T = "dict" ∧ ((∃ kvs, H p = some (.dK kvs)) ∨ ∃ kvs, H p = some (.dT kvs))) ∨ (T = "set" ∧ ∃ S n, H p = some (.set S n))
 | _ => False
theorem tyV_is {pins : Pn} {σ : St} {H : Hp} {s : Shared} {T : String} {x : V} {v : Value} (I : Inv X pins σ H s) (r : RelV x v) (ty : tyV X.K T x H) :
  s.TypeIs v T ∧ ∀ a, v = .ref a → ∃ ob, s.heap.get? a = some ob ∧ ob.dict = none := by
 cases x with
 | str z =>
  obtain ⟨t, rfl⟩ := r
  cases (show T = "str" from ty)
  exact ⟨typeIs_str s z t, fun _ e => nomatch e⟩
 | int i =>
  obtain ⟨t, rfl⟩ := r
  cases (show T = "int" from ty)
  exact ⟨typeIs_int s i t, fun _ e => nomatch e⟩
 | ref p =>
  cases r
  rcases ty with ⟨rfl, xs, hq⟩ | ⟨rfl, o, hk, hc, hd⟩ | ⟨rfl, hk⟩ | ⟨rfl, S, n, hk⟩
  ·obtain ⟨its, _, pl, _⟩ := I.list hq
   refine ⟨pl.isList.typeIs, fun a e => ?_⟩
   cases e
   obtain ⟨o, n, e, c, hd, _⟩ := pl
   exact ⟨o, e, hd⟩
  ·refine ⟨⟨o, I.kIn p o hk, hc⟩, fun a e => ?_⟩
   cases e
   exact ⟨o, I.kIn _ o hk, hd⟩
  ·have z : ∃ o, s.heap.get? p = some o ∧ o.ExactDict := by
    rcases hk with ⟨kvs, hk⟩ | ⟨kvs, hk⟩
    ·obtain ⟨_, _, _, _, o, _, _, e, ex, _⟩ := I.hok p _ hk
     exact ⟨o, e, ex⟩
    ·obtain ⟨_, _, _, _, o, _, _, e, ex, _⟩ := I.hok p _ hk
     exact ⟨o, e, ex⟩
   obtain ⟨o, e, ex⟩ := z
   refine ⟨⟨o, e, ex.1⟩, fun a e2 => ?_⟩
   cases e2
   exact ⟨o, e, ex.2.1⟩
  ·obtain ⟨o, _, _, _, e, ex, _⟩ := I.hok p _ hk
   refine ⟨⟨o, e, ex.1⟩, fun a e2 => ?_⟩
   cases e2
   exact ⟨o, e, ex.2.1⟩
 | _ => exact False.elim ty
def tBM (K : Fg) (T : String) (r : V → List V → Hp → VK → Prop) (to : TE) (t : TA) : TE := fun σ H Q => to σ H fun x H1 => tyV K T x H1 ∧ t σ H1 fun xs H2 => r x xs H2 Q
variable {o e : Expr} {es : List Expr} {to : TE} {t : TA} {name : Str} {apos cpos : Pos} {T id : String} {r : V → List V → Hp → VK → Prop}
theorem QcF (pa : PlainAttrs T) (slot : Slot T name id) (hty : typeOf (.builtin id) = pure (.type "method_descriptor")) (hm : MtR X id r) (ho : PE X o to) (ha : PA X (e :: es) t)
  (hbase : attributeBase o name X.env (eval o X.env) = eval o X.env := by rfl)
  (hfew : ((backTo cpos (starEach (e :: es) X.env)).all (fun x => !x.1) && (backToKw cpos (keywordEach [] X.env)).all (fun x => x.1.isSome)
   && decide ((e :: es).length + ([] : List Keyword).length + (if ([] : List Keyword).isEmpty then 0 else 1) < 30)) = true := by rfl)
  (hline : (apos.endLine == cpos.line) = true := by rfl) (hs : starEach (e :: es) X.env = (false, eval e X.env) :: starEach es X.env := by rfl) (hplain : (backTo cpos (starEach es X.env)).any (·.1) = false := by rfl) :
  PE X (.Call (.Attribute o name apos) (e :: es) [] cpos) (tBM X.K T r to t) := by
 intro pins s σ H Q I h
 refine wpAny_Call_method_late hbase hfew hline rfl (thn (ho pins s σ H _ I h) fun v s1 ⟨x, H1, I1, r1, ty, q1⟩ => ?_)
 obtain ⟨h1, h2⟩ := tyV_is I1 r1 ty
 refine ⟨T, id, pa, slot, hty, h1, h2, ?_⟩
 have hA := ha cpos pins s1 σ H1 _ I1 q1
 rw [hs] at hA ⊢
 refine Calls.callWith_builtin (by show (false || (backTo cpos (starEach es X.env)).any (·.1)) = false; rw [hplain] <;> rfl) (Calls.evalArgs_plain ?_)
 exact thn hA fun us s2 ⟨vs, H2, I2, r2, q2⟩ => hm pins s2 σ H2 x vs v us Q I2 r1 r2 q2
/- xs.append(e), list.index on a module's tuple .. are MtR facts of 06m -/
end
end L2
namespace L2
open PySem PySem.Spec PyProof.Rows
def MtM (X : Cx) (id : String) (r : V → List V → Hp → VK → Prop) : Prop :=
 ∀ (pins : Pn) (s : Shared) (σ : St) (H : Hp) (x : V) (xs : List V) (v : Value) (us : List Value) (Q : VK), Inv X pins σ H s → RelV x v → Vals xs us → r x xs H Q →
  wpAny (model X.prog X.w) X.A (call (.builtin id) (v :: us)) (EP X pins σ Q) X.xe s
theorem Vals.one : ∀ {x : V} {us : List Value}, Vals [x] us → ∃ u, us = [u] ∧ RelV x u
 | _, _, .cons r .nil => ⟨_, rfl, r⟩
theorem Vals.eraseIdx : ∀ {xs : List V} {us : List Value} (i : Nat), Vals xs us → Vals (xs.eraseIdx i) (us.eraseIdx i)
 | _, _, _, .nil => .nil
 | _, _, 0, .cons _ t => t
 | _, _, i + 1, .cons r t => .cons r (Vals.eraseIdx i t)
theorem Vals.rep {xs : List V} {us : List Value} (h : Vals xs us) : ∀ k : Nat, Vals (List.replicate k xs).flatten (List.replicate k us).flatten
 | 0 => .nil
 | k + 1 => by
  rw [List.replicate_succ, List.replicate_succ, List.flatten_cons, List.flatten_cons]
  exact Vals.append h (Vals.rep h k)
theorem Qf6 {α : Type} : ∀ (l : List α) (i : Nat), (l.eraseIdx i).length ≤ l.length
 | [], _ => Nat.le_refl _
 | _ :: _, 0 => Nat.le_succ _
 | _ :: r, i + 1 => Nat.succ_le_succ (Qf6 r i)
theorem Qgb (its : List Value) : ∀ (k : Nat) (acc : List Value),
  List.foldl (fun x1 x2 => x1 ++ x2) acc.toArray (List.replicate k its.toArray) = (acc ++ (List.replicate k its).flatten).toArray
 | 0, acc => by simp
 | k + 1, acc => by
  have e : acc.toArray ++ its.toArray = (acc ++ its).toArray := by simp
  have e2 : (acc ++ its) ++ (List.replicate k its).flatten = acc ++ (List.replicate (k + 1) its).flatten := by
   rw [List.replicate_succ, List.flatten_cons, List.append_assoc]
  rw [← e2, ← Qgb its k (acc ++ its), ← e, List.replicate_succ, List.foldl_cons]
section
variable {X : Cx} {pins : Pn} {σ : St} {H : Hp} {s : Shared} {l b : Addr} {xs ys zs : List V}
theorem Inv.lset {its its' : List Value} {n : Nat} {f : Array Value → Array Value} {t' : Nat} (I : Inv X pins σ H s) (hH : H l = some (.lst xs))
  (e : s.heap.get? l = some { cls := .type "list", data := .seq its.toArray n }) (hf : f its.toArray = its'.toArray) (hv : Vals ys its') (hz : ys.length ≤ sizeLine) :
  Inv X pins σ (upd H l (.lst ys)) { s with heap := s.heap.update l (Obj.mapSeq f), toks := t' } := by
 have q := PySem.IsL.update e f
 rw [hf] at q
 refine I.write (x := l) (e := l) (by rw [hH]; exact trivial) (.inl rfl) (fun b' u hb hu => (Heap.get?_update_other s.heap (Obj.mapSeq f) (Ne.symm hb)).trans hu) ⟨_, q⟩ ?_
 exact ⟨hz, its', _, hv, q⟩
theorem Inv.lnew {its : List Value} {t' : Nat} (I : Inv X pins σ H s) (hv : Vals ys its) (hz : ys.length ≤ sizeLine) :
  Inv X pins σ (upd H s.heap.objs.size (.lst ys)) { s with heap := s.heap.push { cls := .type "list", data := .seq its.toArray }, toks := t' } :=
 I.laid (fun _ _ q => Heap.get?_push_of_some _ q) (Nat.le_refl _) ⟨hz, its, 0, hv, Heap.get?_push_size _ rfl⟩
theorem Inv.fresh (I : Inv X pins σ H s) : H s.heap.objs.size = none := I.hok.fresh (Nat.le_refl _)
theorem Inv.lstM (I : Inv X pins σ H s) (hH : H l = some (.lst xs)) : xs.length ≤ sizeLine ∧ ∃ (its : List Value) (n : Nat), Vals xs its ∧ xs.length = its.length ∧ s.heap.get? l = some { cls := .type "list", data := .seq its.toArray n } := by
 obtain ⟨z, its, n, r, e⟩ := I.hok l _ hH
 exact ⟨z, its, n, r, r.length, e⟩
theorem Qju {n : Nat} (h : n ≤ sizeLine) : Builtin.List.listTooLong n = false := by
 unfold Builtin.List.listTooLong
 exact decide_eq_false (by omega)
end
section
variable {X : Cx}
def Qkv : V → List V → Hp → VK → Prop := fun x vs H Q => ∃ l xs y, x = .ref l ∧ vs = [y] ∧ H l = some (.lst xs) ∧ xs.length < sizeLine ∧ Q .non (upd H l (.lst (xs ++ [y])))
theorem Qaf : MtM X "list.append" Qkv := by
 intro pins s σ H x vs v us Q I rx rv h
 obtain ⟨l, xs, y, rfl, rfl, hH, hz, q⟩ := h
 cases rx
 obtain ⟨u, rfl, ru⟩ := rv.one
 obtain ⟨z, its, n, r, hl, e⟩ := I.lstM hH
 refine call_meets F.slot_list_append ⟨_, e, rfl⟩ F.entry_list_append (F.args_list_append_2 _ _) (PySem.list_append l its.toArray n u (by rw [List.size_toArray]; omega)) ⟨e, ?_⟩
 refine ⟨.non, _, I.lset (its' := its ++ [u]) hH e (by simp) (r.append (.cons ru .nil)) ?_, rfl, q⟩
 rw [List.length_append, List.length_singleton]
 omega
def rPopAt : V → List V → Hp → VK → Prop := fun x vs H Q => ∃ l xs i k y, x = .ref l ∧ vs = [.int i] ∧ H l = some (.lst xs) ∧ -(2 ^ 63) ≤ i ∧ i < 2 ^ 63 ∧ seqIndex? i xs.length = some k ∧ xs[k]? = some y ∧ Q y (upd H l (.lst (xs.eraseIdx k)))
theorem Qg7 : MtM X "list.pop" rPopAt := by
 intro pins s σ H x vs v us Q I rx rv h
 obtain ⟨l, xs, i, k, y, rfl, rfl, hH, h1, h2, hk, hy, q⟩ := h
 cases rx
 obtain ⟨u, rfl, ru⟩ := rv.one
 obtain ⟨t, rfl⟩ := ru
 obtain ⟨z, its, n, r, hl, e⟩ := I.lstM hH
 obtain ⟨w, hw, rw'⟩ := r.get hy
 refine call_meets F.slot_list_pop ⟨_, e, rfl⟩ F.entry_list_pop (F.args_list_pop_2 _ _)
  (MeetsSeq.list_pop_at l its.toArray n i t k w (fitsIndex_both h1 h2) (by rw [List.size_toArray, ← hl]; exact hk) (by rw [← Array.getElem?_toList]; exact hw) (by rw [List.size_toArray]; omega)) ⟨e, ?_⟩
 refine ⟨y, _, I.lset (its' := its.eraseIdx k) hH e ?_ (r.eraseIdx k) ?_, rw', q⟩
 ·show its.toArray.eraseIdxIfInBounds k = (its.eraseIdx k).toArray
  rw [List.eraseIdxIfInBounds_toArray]
 ·have := Qf6 xs k
  omega
def rCat : R2 := fun x y H Q => ∃ l b xs zs, x = .ref l ∧ y = .ref b ∧ H l = some (.lst xs) ∧ H b = some (.lst zs) ∧ xs.length + zs.length ≤ sizeLine ∧ ∀ p, H p = none → Q (.ref p) (upd H p (.lst (xs ++ zs)))
theorem op_cat : OpR X (binaryOp .Add) rCat := by
 intro pins s σ H x y v u Q I rx ry h
 obtain ⟨l, b, xs, zs, rfl, rfl, hH, hB, hz, q⟩ := h
 cases rx
 cases ry
 obtain ⟨z, its, n, r, hl, e⟩ := I.lstM hH
 obtain ⟨z2, its2, n2, r2, hl2, e2⟩ := I.lstM hB
 refine PySem.P.add_list e e2 ?_ (by rw [List.size_toArray, List.size_toArray]; omega)
 have ea : its.toArray ++ its2.toArray = (its ++ its2).toArray := by simp
 rw [ea]
 exact ⟨.ref _, _, I.lnew (t' := s.toks) (r.append r2) (by rw [List.length_append]; omega), rfl, q _ I.fresh⟩
def rRep : R2 := fun x y H Q => ∃ l k xs, x = .ref l ∧ y = .int k ∧ H l = some (.lst xs) ∧ -(2 ^ 63) ≤ k ∧ k < 2 ^ 63 ∧ xs.length * k.toNat ≤ sizeLine ∧
 ∀ p, H p = none → Q (.ref p) (upd H p (.lst (List.replicate k.toNat xs).flatten))
theorem QkF {α : Type} (xs : List α) (k : Nat) : (List.replicate k xs).flatten.length = k * xs.length := by
 induction k with
 | zero => simp
 | succ k ih => rw [List.replicate_succ, List.flatten_cons, List.length_append, ih, Nat.succ_mul, Nat.add_comm]
theorem Qj4 : OpR X (binaryOp .Mult) rRep := by
 intro pins s σ H x y v u Q I rx ry h
 obtain ⟨l, k, xs, rfl, rfl, hH, h1, h2, hz, q⟩ := h
 cases rx
 obtain ⟨t, rfl⟩ := ry
 obtain ⟨z, its, n, r, hl, e⟩ := I.lstM hH
 have hlen : its.toArray.size * k.toNat ≤ sizeLine := by rw [List.size_toArray, ← hl]; exact hz
 have hcap : ¬ its.toArray.size * k.toNat > (2 ^ 63 - 1) / 8 := by
  have : (sizeLine : Nat) ≤ (2 ^ 63 - 1) / 8 := by decide
  omega
 have hfit : ¬ (!Builtin.List.listFitsIndex k) = true := by
  rw [fitsIndex_both h1 h2]
  exact Bool.false_ne_true
 have hlong : ¬ Builtin.List.listTooLong (its.toArray.size * k.toNat) = true := by
  rw [Qju hlen]
  exact Bool.false_ne_true
 have hnew : List.foldl (fun x1 x2 => x1 ++ x2) #[] (List.replicate (if its.toArray.isEmpty = true then 0 else k.toNat) its.toArray) = (List.replicate k.toNat its).flatten.toArray := by
  have f0 : ∀ m : Nat, List.foldl (fun x1 x2 => x1 ++ x2) #[] (List.replicate m its.toArray) = (List.replicate m its).flatten.toArray := fun m => by
   have := Qgb its m []
   rw [List.nil_append] at this
   exact this
  rw [f0]
  cases its with
  | nil => simp
  | cons a r' => rw [if_neg (by simp)]
 refine wpAny_binaryOp_repeat_ref (T := "list") (U := "int") (by decide) ⟨_, e, rfl⟩ (fun s' => typeIs_int s' k t) noFill_list_mul F.fills_int_mul F.slot_int_rmul repeat_list F.slot_int_index.lookup
  (call_meets F.slot_int_rmul (typeIs_int s k t) F.entry_int_rmul (F.args_int_rmul_2 _ _) (int___rmul___int_list k t l its.toArray n)
   ⟨e, rfl, ⟨_, e, rfl⟩, call_meets F.slot_list_mul ⟨_, e, rfl⟩ F.entry_list_mul (F.args_list_mul_2 _ _) (AutoListH.list___mul___list_int_3 l its.toArray n k t hfit hcap hlong) ⟨e, ?_⟩⟩)
 rw [hnew]
 exact ⟨.ref _, _, I.lnew (t' := s.toks) (r.rep k.toNat) (by rw [QkF, Nat.mul_comm]; exact hz), rfl, q _ I.fresh⟩
end
section
variable {prog : Program} {w : World} {A : Around} {E : Value → Shared → Prop} {s : Shared}
end
section
variable {X : Cx}
end
end L2
namespace L2
open PySem PySem.Spec PyProof.Rows
section
variable {κ : Type} [DecidableEq κ]
def QaP (kvs : List (κ × V)) (k : κ) : Option V := (kvs.find? fun kv => decide (kv.1 = k)).map (·.2)
def QbK (kvs : List (κ × V)) (k : κ) (v : V) : List (κ × V) :=
 if (kvs.any fun kv => decide (kv.1 = k)) = true then kvs.map (fun kv => if kv.1 = k then (kv.1, v) else kv) else kvs ++ [(k, v)]
def Qc5 (kvs : List (κ × V)) (k : κ) : List (κ × V) := kvs.filter fun kv => decide (kv.1 ≠ k)
theorem QbW {p : κ × V} {r : List (κ × V)} {k : κ} (e : p.1 = k) : QaP (p :: r) k = some p.2 := by simp [QaP, List.find?_cons, e]
theorem QbX {p : κ × V} {r : List (κ × V)} {k : κ} (e : ¬ p.1 = k) : QaP (p :: r) k = QaP r k := by simp [QaP, List.find?_cons, e]
theorem QbY (k : κ) : ∀ kvs : List (κ × V), (kvs.any fun kv => decide (kv.1 = k)) = (QaP kvs k).isSome
 | [] => rfl
 | p :: r => by
  rw [List.any_cons]
  by_cases e : p.1 = k
  ·simp only [QbW e, decide_eq_true e, Bool.true_or, Option.isSome_some]
  ·rw [QbX e, decide_eq_false e, Bool.false_or]; exact QbY k r
theorem Qcs (kvs : List (κ × V)) (k : κ) (v : V) : (QbK kvs k v).length ≤ kvs.length + 1 := by
 unfold QbK
 split
 ·rw [List.length_map]; omega
 ·rw [List.length_append, List.length_cons, List.length_nil]; omega
theorem Qbf {kvs : List (κ × V)} {k : κ} (v : V) (h : QaP kvs k = none) : QbK kvs k v = kvs ++ [(k, v)] := by
 unfold QbK
 rw [QbY, h]
 exact if_neg (by decide)
theorem RelO.isSome_eq {o : Option V} {u : Option Value} (r : RelO o u) : o.isSome = u.isSome := by
 cases o with
 | none => cases u with
  | none => rfl
  | some _ => exact (show False from r).elim
 | some _ => cases u with
  | none => exact (show False from r).elim
  | some _ => rfl
theorem RelO.getD {o : Option V} {u : Option Value} {d : V} {d' : Value} (r : RelO o u) (rd : RelV d d') : RelV (o.getD d) (u.getD d') := by
 cases o with
 | none => cases u with
  | none => exact rd
  | some _ => exact (show False from r).elim
 | some _ => cases u with
  | none => exact (show False from r).elim
  | some _ => exact r
theorem KV.val {kvs : List (κ × V)} {vs : List (κ × Value)} (r : KV kvs vs) (k : κ) : RelO (QaP kvs k) (valueAt vs k) := by
 unfold KV at r
 induction r with
 | nil => exact True.intro
 | @cons p q ps qs h t ih =>
  obtain ⟨h1, h2⟩ := h
  by_cases e : p.1 = k
  ·have e' : q.1 = k := h1.symm.trans e
   have b : valueAt (q :: qs) k = some q.2 := by simp [valueAt, List.find?_cons, e']
   rw [QbW e, b]; exact h2
  ·have e' : ¬ q.1 = k := fun z => e (h1.trans z)
   have b : valueAt (q :: qs) k = valueAt qs k := by simp [valueAt, List.find?_cons, e']
   rw [QbX e, b]; exact ih
theorem KV.any {kvs : List (κ × V)} {vs : List (κ × Value)} (r : KV kvs vs) (k : κ) : (kvs.any fun kv => decide (kv.1 = k)) = vs.any fun kv => decide (kv.1 = k) := by
 unfold KV at r
 induction r with
 | nil => rfl
 | cons h t ih => rw [List.any_cons, List.any_cons, ih, h.1]
theorem KV.repl {kvs : List (κ × V)} {vs : List (κ × Value)} (r : KV kvs vs) (k : κ) {y : V} {u : Value} (ry : RelV y u) :
  KV (kvs.map fun kv => if kv.1 = k then (kv.1, y) else kv) (vs.map fun kv => if kv.1 = k then (kv.1, u) else kv) := by
 unfold KV at r ⊢
 induction r with
 | nil => exact .nil
 | @cons p q ps qs h t ih =>
  rw [List.map_cons, List.map_cons]
  refine .cons ?_ ih
  obtain ⟨h1, h2⟩ := h
  by_cases e : p.1 = k
  ·rw [if_pos e, if_pos (h1.symm.trans e)]; exact ⟨h1, ry⟩
  ·rw [if_neg e, if_neg (fun z => e (h1.trans z))]; exact ⟨h1, h2⟩
theorem KV.put {kvs : List (κ × V)} {vs : List (κ × Value)} (r : KV kvs vs) (k : κ) {y : V} {u : Value} (ry : RelV y u) : KV (QbK kvs k y) (stored vs k u) := by
 unfold QbK stored
 rw [r.any k]
 by_cases e : (vs.any fun kv => decide (kv.1 = k)) = true
 ·rw [if_pos e, if_pos e]; exact r.repl k ry
 ·rw [if_neg e, if_neg e]; exact Paired.snoc r ⟨rfl, ry⟩
theorem KV.drop {kvs : List (κ × V)} {vs : List (κ × Value)} (r : KV kvs vs) (k : κ) : KV (Qc5 kvs k) (without vs k) := by
 unfold KV at r ⊢
 unfold Qc5 without
 induction r with
 | nil => exact .nil
 | @cons p q ps qs h t ih =>
  obtain ⟨h1, h2⟩ := h
  rw [List.filter_cons, List.filter_cons]
  by_cases e : p.1 = k
  ·have a : ¬ decide (p.1 ≠ k) = true := by simp [e]
   have b : ¬ decide (q.1 ≠ k) = true := by simp [h1.symm.trans e]
   rw [if_neg a, if_neg b]; exact ih
  ·have e' : ¬ q.1 = k := fun z => e (h1.trans z)
   have a : decide (p.1 ≠ k) = true := by simp [e]
   have b : decide (q.1 ≠ k) = true := by simp [e']
   rw [if_pos a, if_pos b]; exact .cons ⟨h1, h2⟩ ih
theorem KV.keys {kvs : List (κ × V)} {vs : List (κ × Value)} (r : KV kvs vs) : kvs.map (·.1) = vs.map (·.1) := by
 unfold KV at r
 induction r with
 | nil => rfl
 | cons h t ih => rw [List.map_cons, List.map_cons, ih, h.1]
theorem KV.length {kvs : List (κ × V)} {vs : List (κ × Value)} (r : KV kvs vs) : kvs.length = vs.length := Paired.length r
theorem QjG (kvs : List (κ × V)) (k : κ) : (Qc5 kvs k).length ≤ kvs.length := List.length_filter_le _ _
end
theorem Qfz {P : Program} {w : World} {k : Key} {u : Value} (r : RelV (kV k) u) : (Q0 P w).is k u = true := by
 cases k with
 | inl i => obtain ⟨t, e⟩ := (show ∃ t, u = Value.int i t from r); subst e; exact QgI P w i t
 | inr x => obtain ⟨t, e⟩ := (show ∃ t, u = Value.str x t from r); subst e; exact QgH P w x t
theorem Qf8 {P : Program} {w : World} : ∀ {ks : List Key} {us : List Value}, Vals (ks.map kV) us → ItemsAre (Q0 P w) ks us
 | [], _, r => by rw [List.map_nil] at r; cases r; exact .nil
 | k :: ks, _, r => by
  rw [List.map_cons] at r
  cases r with
  | cons h t => exact .cons (Qfz h) (Qf8 t)
abbrev KT (H : Hp) : List (List Key × V) → List (List Key × Addr × Value) → Prop := Paired fun p q => p.1 = q.1 ∧ H q.2.1 = some (.tup (p.1.map kV)) ∧ RelV p.2 q.2.2
theorem KT.val {H : Hp} {kvs : List (List Key × V)} {xs : List (List Key × Addr × Value)} (r : KT H kvs xs) (k : List Key) : RelO (QaP kvs k) ((atKey xs k).map (·.2)) := by
 induction r with
 | nil => exact True.intro
 | @cons p q ps qs h t ih =>
  obtain ⟨h1, _, h2⟩ := h
  by_cases e : p.1 = k
  ·have e' : q.1 = k := h1.symm.trans e
   have b : atKey (q :: qs) k = some q.2 := by simp [atKey, List.find?_cons, e']
   rw [QbW e, b]; exact h2
  ·have e' : ¬ q.1 = k := fun z => e (h1.trans z)
   have b : atKey (q :: qs) k = atKey qs k := by simp [atKey, List.find?_cons, e']
   rw [QbX e, b]; exact ih
theorem KT.repl {H : Hp} {kvs : List (List Key × V)} {xs : List (List Key × Addr × Value)} (r : KT H kvs xs) (k : List Key) {y : V} {u : Value} (ry : RelV y u) :
  KT H (kvs.map fun kv => if kv.1 = k then (kv.1, y) else kv) (xs.map (putAt k u)) := by
 induction r with
 | nil => exact .nil
 | @cons p q ps qs h t ih =>
  rw [List.map_cons, List.map_cons]
  refine .cons ?_ ih
  obtain ⟨h1, h2, h3⟩ := h
  unfold putAt
  by_cases e : p.1 = k
  ·rw [if_pos e, if_pos (h1.symm.trans e)]; exact ⟨h1, h2, ry⟩
  ·rw [if_neg e, if_neg (fun z => e (h1.trans z))]; exact ⟨h1, h2, h3⟩
theorem KT.put {H : Hp} {kvs : List (List Key × V)} {xs : List (List Key × Addr × Value)} (r : KT H kvs xs) (k : List Key) {b : Addr} {y : V} {u : Value} (hb : H b = some (.tup (k.map kV))) (ry : RelV y u) :
  KT H (QbK kvs k y) (storedH xs k b u) := by
 have e : (kvs.any fun kv => decide (kv.1 = k)) = (atKey xs k).isSome := by
  rw [QbY, (r.val k).isSome_eq, Option.isSome_map]
 unfold QbK storedH
 rw [e]
 by_cases q : (atKey xs k).isSome = true
 ·rw [if_pos q, if_pos q]; exact r.repl k ry
 ·rw [if_neg q, if_neg q]; exact Paired.snoc r ⟨rfl, hb, ry⟩
theorem KT.keeps {H H' : Hp} {kvs : List (List Key × V)} {xs : List (List Key × Addr × Value)} (r : KT H kvs xs) (ht : ∀ b ys, H b = some (.tup ys) → H' b = some (.tup ys)) : KT H' kvs xs :=
 Paired.mapP r fun _ _ z => ⟨z.1, ht _ _ z.2.1, z.2.2⟩
section
variable {P : Program} {w : World} {H : Hp} {h : Heap} {a : Addr}
theorem rd_of {u : HO} (ok : HOk P w H h) (e : Rd H a u) : ObjOk P w H h a u := e.ok ok
theorem Qgg {kvs : List (Key × V)} (ok : HOk P w H h) (e : Rd H a (.dK kvs)) : kvs.length ≤ sizeLine ∧ (a == sysModules) = false ∧ ∃ vs, KV kvs vs ∧ h.DictOf (Q0 P w) a vs :=
 show ObjOk P w H h a (.dK kvs) from rd_of ok e
theorem QiL {kvs : List (Key × V)} (ok : HOk P w H h) (e : H a = some (.dK kvs)) : kvs.length ≤ sizeLine ∧ (a == sysModules) = false ∧ ∃ vs, KV kvs vs ∧ h.DictOf (Q0 P w) a vs := Qgg ok (.inl e)
theorem Qe3 {ks : List Key} (ok : HOk P w H h) (e : H a = some (.tup (ks.map kV))) : (tupleKind (Q0 P w)).is h ks a := by
 obtain ⟨_, its, r, o, h1, h2, n, h3⟩ := (show ObjOk P w H h a (.tup (ks.map kV)) from ok a _ e)
 exact ⟨o, its.toArray, n, h1, h2, h3, by simpa using Qf8 r⟩
theorem QgM {kvs : List (List Key × V)} (ok : HOk P w H h) (e : Rd H a (.dT kvs)) : kvs.length ≤ sizeLine ∧ (a == sysModules) = false ∧
  ∃ xs, KT H kvs xs ∧ h.DictOfH (tupleKind (Q0 P w)) a xs := by
 obtain ⟨z, y, xs, r, o, es, ep, h1, h2, h3, h4, h5⟩ := (show ObjOk P w H h a (.dT kvs) from rd_of ok e)
 refine ⟨z, y, xs, r, o, es, ep, h1, h2, h3, h4, fun x hx => ?_, h5⟩
 have all : ∀ {l : List (List Key × V)} {m : List (List Key × Addr × Value)}, KT H l m → ∀ x ∈ m, (tupleKind (Q0 P w)).is h x.1 x.2.1 := by
  intro l m q
  induction q with
  | nil => intro x hx; exact nomatch hx
  | @cons p q ps qs hq t ih =>
   intro x hx
   rcases List.mem_cons.mp hx with e | hx
   ·subst e
    exact Qe3 ok (by rw [← hq.1]; exact hq.2.1)
   ·exact ih x hx
 exact all r x hx
theorem dt_of {kvs : List (List Key × V)} (ok : HOk P w H h) (e : H a = some (.dT kvs)) : kvs.length ≤ sizeLine ∧ (a == sysModules) = false ∧
  ∃ xs, KT H kvs xs ∧ h.DictOfH (tupleKind (Q0 P w)) a xs := QgM ok (.inl e)
end
def DGet (H : Hp) (a : Addr) (y : V) (r : Option V) : Prop :=
 (∃ kvs k, Rd H a (.dK kvs) ∧ y = kV k ∧ r = QaP kvs k) ∨ ∃ kvs k b, Rd H a (.dT kvs) ∧ y = .ref b ∧ H b = some (.tup (k.map kV)) ∧ r = QaP kvs k
def DPut (H : Hp) (a : Addr) (y v : V) (H' : Hp) : Prop :=
 (∃ kvs k, H a = some (.dK kvs) ∧ y = kV k ∧ kvs.length < sizeLine ∧ H' = upd H a (.dK (QbK kvs k v))) ∨
 ∃ kvs k b, H a = some (.dT kvs) ∧ y = .ref b ∧ H b = some (.tup (k.map kV)) ∧ kvs.length < sizeLine ∧ H' = upd H a (.dT (QbK kvs k v))
theorem DGet.k {H : Hp} {a : Addr} {kvs : List (Key × V)} {k : Key} (e : H a = some (.dK kvs)) : DGet H a (kV k) (QaP kvs k) := .inl ⟨kvs, k, .inl e, rfl, rfl⟩
theorem DPut.k {H : Hp} {a : Addr} {kvs : List (Key × V)} {k : Key} {v : V} (e : H a = some (.dK kvs)) (hl : kvs.length < sizeLine) : DPut H a (kV k) v (upd H a (.dK (QbK kvs k v))) := .inl ⟨kvs, k, e, rfl, hl, rfl⟩
section
variable {X : Cx} {pins : Pn} {σ : St} {H : Hp} {s : Shared} {a : Addr} {y v : V} {u r : Value} {o : Option V} {A : Around} {E : Value → Shared → Prop}
theorem Inv.big (I : Inv X pins σ H s) : sysModules < s.heap.objs.size := by
 have h : mainGlobals < s.heap.objs.size := (I.mod.glob.keeps I.bk).lt
 exact Nat.lt_trans (by decide) h
theorem QiR {Q : Value → Shared → Prop} (hu : A.units + 1 < cLine) (I : Inv X pins σ H s) (g : DGet H a y (some v)) (ry : RelV y u) (h : ∀ w' s', Inv X pins σ H s' → RelV v w' → Q w' s') :
  wpAny (model X.prog X.w) A (getItem (.ref a) u) Q E s := by
 rcases g with ⟨kvs, k, e, ey, l⟩ | ⟨kvs, k, b, e, ey, eb, l⟩
 ·subst ey
  obtain ⟨z, hd, vs, rel, dd⟩ := Qgg I.hok e
  obtain ⟨w', hw, rw'⟩ := RelO.some_of (v := v) (o := valueAt vs k) (by rw [l]; exact rel.val k)
  exact wpAny_getItem_of (Qfz ry) dd.mapOf hw (h w' _ (I.tok _) rw')
 ·subst ey
  cases (show u = Value.ref b from ry)
  obtain ⟨z, hd, xs, rel, dd⟩ := QgM I.hok e
  obtain ⟨w', hw, rw'⟩ := RelO.some_of (v := v) (o := (atKey xs k).map (·.2)) (by rw [l]; exact rel.val k)
  obtain ⟨p, hp, hp2⟩ := Option.map_eq_some_iff.mp hw
  refine wpAny_getItem_heap (tupleKind_room_in1 hu) (Qe3 I.hok eb) dd hp ?_
  rw [hp2]
  exact h w' _ (I.tok _) rw'
theorem d_in {Q : Value → Shared → Prop} (hu : A.units + 1 < cLine) (I : Inv X pins σ H s) (g : DGet H a y o) (ry : RelV y u) (h : ∀ s', Inv X pins σ H s' → Q (.bool o.isSome) s') :
  wpAny (model X.prog X.w) A (compareOp .In u (.ref a)) Q E s := by
 rcases g with ⟨kvs, k, e, ey, l⟩ | ⟨kvs, k, b, e, ey, eb, l⟩
 ·subst ey
  obtain ⟨z, hd, vs, rel, dd⟩ := Qgg I.hok e
  refine wpAny_in_of (Qfz ry) hd dd.mapOf ?_
  rw [← (rel.val k).isSome_eq, ← l]
  exact h _ (I.tok _)
 ·subst ey
  cases (show u = Value.ref b from ry)
  obtain ⟨z, hd, xs, rel, dd⟩ := QgM I.hok e
  refine wpAny_in_heap (tupleKind_room_in1 hu) (Qe3 I.hok eb) hd dd ?_
  have q := (rel.val k).isSome_eq
  rw [Option.isSome_map] at q
  rw [← q, ← l]
  exact h _ (I.tok _)
theorem QkO {Q : Value → Shared → Prop} (hu : A.units + 1 < cLine) (I : Inv X pins σ H s) (g : DGet H a y o) (ry : RelV y u) (h : ∀ s', Inv X pins σ H s' → Q (.bool (!o.isSome)) s') :
  wpAny (model X.prog X.w) A (compareOp .NotIn u (.ref a)) Q E s := by
 rcases g with ⟨kvs, k, e, ey, l⟩ | ⟨kvs, k, b, e, ey, eb, l⟩
 ·subst ey
  obtain ⟨z, hd, vs, rel, dd⟩ := Qgg I.hok e
  refine wpAny_notIn_of (Qfz ry) hd dd.mapOf ?_
  rw [← (rel.val k).isSome_eq, ← l]
  exact h _ (I.tok _)
 ·subst ey
  cases (show u = Value.ref b from ry)
  obtain ⟨z, hd, xs, rel, dd⟩ := QgM I.hok e
  refine wpAny_notIn_heap (tupleKind_room_in1 hu) (Qe3 I.hok eb) hd dd ?_
  have q := (rel.val k).isSome_eq
  rw [Option.isSome_map] at q
  rw [← q, ← l]
  exact h _ (I.tok _)
theorem QfG {h' : Heap} {t' : Nat} {ob : HO} (I : Inv X pins σ H s) (mu : Mut (H a)) (hs : Heap.SameBut a s.heap h') (he : ∃ q, h'.get? a = some q) (new : ObjOk X.prog X.w (upd H a ob) h' a ob) :
  Inv X pins σ (upd H a ob) { s with heap := h', toks := t' } :=
 I.write (x := a) (e := a) mu (.inl rfl) (fun b q hb z => (hs.2 b hb).trans z) he new
theorem QiM {P : Program} {w : World} {H' : Hp} {h' : Heap} {kvs : List (Key × V)} {vs : List (Key × Value)} (z : kvs.length ≤ sizeLine) (hd : (a == sysModules) = false) (rel : KV kvs vs) (dd : h'.DictOf (Q0 P w) a vs) :
  ObjOk P w H' h' a (.dK kvs) := ⟨z, hd, vs, rel, dd⟩
theorem QiQ {H' : Hp} {Q : Unit → Shared → Prop} (hu : A.units + 1 < cLine) (I : Inv X pins σ H s) (g : DPut H a y v H') (ry : RelV y u) (rv : RelV v r) (h : ∀ s', Inv X pins σ H' s' → Q () s') :
  wpAny (model X.prog X.w) A (setItem (.ref a) u r) Q E s := by
 rcases g with ⟨kvs, k, e, ey, l, eH⟩ | ⟨kvs, k, b, e, ey, eb, l, eH⟩
 ·subst ey eH
  obtain ⟨z, hd, vs, rel, dd⟩ := QiL I.hok e
  have hz : vs.length ≤ sizeLine := by rw [← rel.length]; exact z
  have hl : (QbK kvs k v).length ≤ sizeLine := by have := Qcs kvs k v; omega
  refine wpAny_setItem_pairs (hsz := hz) (Qfz ry) dd fun h' dd' hs => h _ ?_
  have he : ∃ q, h'.get? a = some q := let ⟨q, _, _, hq, _⟩ := dd'; ⟨q, hq⟩
  exact QfG I (by rw [e]; exact True.intro) hs he (QiM hl hd (rel.put k rv) dd')
 ·subst ey eH
  cases (show u = Value.ref b from ry)
  obtain ⟨z, hd, xs, rel, dd⟩ := dt_of I.hok e
  have hz : xs.length ≤ sizeLine := by rw [← Paired.length rel]; exact z
  have hl : (QbK kvs k v).length ≤ sizeLine := by have := Qcs kvs k v; omega
  refine wpAny_setItem_heap (hsz := hz) (tupleKind_room_in1 hu) (Qe3 I.hok eb) dd fun h' dd' hs => h _ ?_
  obtain ⟨q, es, ep, hq, h2, h3, h4, _, h5⟩ := dd'
  refine QfG I (by rw [e]; exact True.intro) hs ⟨q, hq⟩ ⟨hl, hd, _, (rel.put k eb rv).keeps fun c ys ec => ?_, q, es, ep, hq, h2, h3, h4, h5⟩
  rw [Qf (QB ec e (fun z => nomatch z))]
  exact ec
end
section
variable {X : Cx} {pins : Pn} {σ : St} {H : Hp} {s : Shared} {a : Addr} {kvs : List (Key × V)} {k : Key} {u : Value} {A : Around} {E : Value → Shared → Prop}
theorem d_pop {v : V} {more : List Value} {Q : Value → Shared → Prop} (I : Inv X pins σ H s) (e : H a = some (.dK kvs)) (ry : RelV (kV k) u) (l : QaP kvs k = some v) (hm : more = [] ∨ ∃ x, more = [x])
  (h : ∀ w' s', Inv X pins σ (upd H a (.dK (Qc5 kvs k))) s' → RelV v w' → Q w' s') : wpAny (model X.prog X.w) A (call (.builtin "dict.pop") (.ref a :: u :: more)) Q E s := by
 obtain ⟨z, hd, vs, rel, dd⟩ := QiL I.hok e
 obtain ⟨w', hw, rw'⟩ := RelO.some_of (v := v) (o := valueAt vs k) (by rw [← l]; exact rel.val k)
 have hp : (keyPart u).isSome = true := by
  cases k with
  | inl i => obtain ⟨t, q⟩ := (show ∃ t, u = Value.int i t from ry); subst q; rfl
  | inr x => obtain ⟨t, q⟩ := (show ∃ t, u = Value.str x t from ry); subst q; rfl
 have ha : argsOk "dict.pop" ⟨.ref a :: u :: more, []⟩ := by
  rcases hm with q | ⟨x, q⟩
  ·subst q; exact PySem.F.args_dict_pop_2 _ _
  ·subst q; exact PySem.F.args_dict_pop_3 _ _ _
 refine call_meetsIn PySem.F.slot_dict_pop dd.typeIs PySem.F.entry_dict_pop ha (meets_dict_pop_there (Q0 X.prog X.w) a (Qfz ry) more hm hp)
  ⟨vs, w', dd, by rw [← rel.length]; exact z, hw, fun h' dd' hs => h w' _ ?_ rw'⟩
 have he : ∃ q, h'.get? a = some q := let ⟨q, _, _, hq, _⟩ := dd'; ⟨q, hq⟩
 exact QfG I (by rw [e]; exact True.intro) hs he (QiM (Nat.le_trans (QjG kvs k) z) hd (rel.drop k) dd')
theorem d_len {Q : Value → Shared → Prop} (I : Inv X pins σ H s) (e : Rd H a (.dK kvs)) (h : ∀ t s', Inv X pins σ H s' → Q (.int kvs.length t) s') : wpAny (model X.prog X.w) A (call (.builtin "len") [.ref a]) Q E s := by
 obtain ⟨z, hd, vs, rel, dd⟩ := Qgg I.hok e
 refine call_len_dict hd dd (by rw [← rel.length]; rw [sizeLine_eq] at z; omega) ?_
 rw [← rel.length]
 exact h _ _ (I.tok _)
end
def NoSl (i : Expr) : Prop := ∀ ov iv, subscripted i false ov iv = operate [ov, iv] (getItem ov iv)
theorem Qkl {prog : Program} {w : World} {A : Around} {E : Value → Shared → Prop} {s : Shared} {env : Env} {value slice : Expr} {pos : Pos} {T id : String} {Q : Value → Shared → Prop}
  (hl : typeLookup (.type T) "__getitem__" = pure (some (.builtin id))) (hs : NoSl slice)
  (h : wpAny (model prog w) A (eval value env) (fun o s₁ => wpAny (model prog w) A (eval slice env) (fun i s₂ => s₂.TypeIs o T ∧ wpAny (model prog w) A (getItem o i) Q E s₂) E s₁) E s) :
  wpAny (model prog w) A (eval (.Subscript value slice pos) env) Q E s := by
 refine Subscript_ (wpAny_mono h (fun o s₁ h₁ => wpAny_mono h₁ (fun i s₂ h₂ => ?_) fun _ _ x => x) fun _ _ x => x)
 obtain ⟨hT, h₂⟩ := h₂
 unfold subscriptTail
 refine wpAny_bind ?_
 rw [getitemInPython_of_ne hT.not_modules]
 refine wpAny_bind (wpAny_specialOf hT hl ?_)
 have fin : wpAny (model prog w) A (subscripted slice false o i) (fun r s₃ => wpAny (model prog w) A (letTemporaryGo value o r >>= fun _ => pure r) Q E s₃) E s₂ := by
  rw [hs o i]
  exact wpAny_operating (wpAny_mono h₂ (fun r s₃ h₃ => wpAny_bind (wpAny_letTemporaryGo (wpAny_pure h₃))) fun _ _ x => x)
 first
  | exact wpAny_pure (wpAny_bind fin)
  | exact wpAny_bind (wpAny_pure (wpAny_bind fin))
  | exact wpAny_bind fin
theorem QgN {X : Cx} {pins : Pn} {σ : St} {H : Hp} {s : Shared} {a : Addr} {y : V} {o : Option V} (I : Inv X pins σ H s) (g : DGet H a y o) : s.TypeIs (.ref a) "dict" := by
 rcases g with ⟨kvs, k, e, _, _⟩ | ⟨kvs, k, b, e, _, _, _⟩
 ·obtain ⟨_, _, vs, _, dd⟩ := Qgg I.hok e
  exact dd.typeIs
 ·obtain ⟨_, _, xs, _, dd⟩ := QgM I.hok e
  exact dd.typeIs
def tDGet (td ty : TE) : TE := fun σ H Q => td σ H fun x H1 => ty σ H1 fun y H2 => ∃ a v, x = .ref a ∧ DGet H2 a y (some v) ∧ Q v H2
def tDIn (ty td : TE) : TE := fun σ H Q => ty σ H fun y H1 => td σ H1 fun x H2 => ∃ a o, x = .ref a ∧ DGet H2 a y o ∧ Q (.bl o.isSome) H2
def Qkj (ty td : TE) : TE := fun σ H Q => ty σ H fun y H1 => td σ H1 fun x H2 => ∃ a o, x = .ref a ∧ DGet H2 a y o ∧ Q (.bl (!o.isSome)) H2
def sDPut (td ty tv : TE) : TS := fun D σ H => tv σ H fun v H1 => td σ H1 fun x H2 => ty σ H2 fun y H3 => ∃ a H4, x = .ref a ∧ DPut H3 a y v H4 ∧ D.nx σ H4
section
variable {X : Cx} {o i e value : Expr} {pos pos' tpos : Pos} {td ty tv : TE}
theorem Z9 (hu : X.A.units + 1 < cLine) (ho : PE X o td) (hi : PE X i ty) (hs : NoSl i) : PE X (.Subscript o i pos) (tDGet td ty) := by
 intro pins s σ H Q I h
 refine Qkl PySem.F.slot_dict_getitem.lookup hs (thn (ho pins s σ H _ I h) fun u s1 ⟨x, H1, I1, rx, q1⟩ => thn (hi pins s1 σ H1 _ I1 q1) fun iv s2 ⟨y, H2, I2, ry, a, v, ex, g, q2⟩ => ?_)
 subst ex
 obtain rfl : u = Value.ref a := rx
 exact ⟨QgN I2 g, QiR hu I2 g ry fun w' s3 I3 rw' => ⟨v, H2, I3, rw', q2⟩⟩
theorem Qie (hu : X.A.units + 1 < cLine) (hi : PE X i ty) (ho : PE X o td) : PC X .In i o (tDIn ty td) := by
 intro pins s σ H Q I h
 refine thn (hi pins s σ H _ I h) fun iv s1 ⟨y, H1, I1, ry, q1⟩ => thn (ho pins s1 σ H1 _ I1 q1) fun u s2 ⟨x, H2, I2, rx, a, ov, ex, g, q2⟩ => ?_
 subst ex
 obtain rfl : u = Value.ref a := rx
 exact d_in hu I2 g ry fun s3 I3 => ⟨.bl ov.isSome, H2, I3, rfl, q2⟩
theorem Qef (hu : X.A.units + 1 < cLine) (hi : PE X i ty) (ho : PE X o td) : PC X .NotIn i o (Qkj ty td) := by
 intro pins s σ H Q I h
 refine thn (hi pins s σ H _ I h) fun iv s1 ⟨y, H1, I1, ry, q1⟩ => thn (ho pins s1 σ H1 _ I1 q1) fun u s2 ⟨x, H2, I2, rx, a, ov, ex, g, q2⟩ => ?_
 subst ex
 obtain rfl : u = Value.ref a := rx
 exact QkO hu I2 g ry fun s3 I3 => ⟨.bl (!ov.isSome), H2, I3, rfl, q2⟩
theorem Qbh (hu : X.A.units + 1 < cLine) (ho : PE X o td) (hi : PE X i ty) (hv : PE X value tv) (hs : swapsWith value (some (.Subscript o i pos')) pos.line X.env = pure false) :
  PS X (.Assign [.Subscript o i pos'] value pos) (sDPut td ty tv) := by
 intro pins s σ H D I h
 refine wpAny_Assign_Subscript (thn (hv pins s σ H _ I h) fun r s1 ⟨v, H1, I1, rv, q1⟩ => thn (ho pins s1 σ H1 _ I1 q1) fun u s2 ⟨x, H2, I2, rx, q2⟩ => thn (hi pins s2 σ H2 _ I2 q2) fun iv s3 ⟨y, H3, I3, ry, a, H4, ex, g, q3⟩ => ?_) hs
 subst ex
 obtain rfl : u = Value.ref a := rx
 exact QiQ hu I3 g ry rv fun s4 I4 => ⟨σ, H4, I4, q3⟩
end
theorem QjI {P : Program} {w : World} {H : Hp} (h : Heap) (hb : sysModules < h.objs.size) : ObjOk P w H (h.push { cls := .type "dict", data := .dict #[] }) h.objs.size (.dK []) :=
 ⟨Nat.zero_le _, beq_eq_false_iff_ne.mpr (Ne.symm (Nat.ne_of_lt hb)), [], .nil, Heap.DictOf.new h⟩
def tDNewK : TE := fun _ H Q => ∀ p, H p = none → Q (.ref p) (upd H p (.dK []))
section
variable {X : Cx} {pos : Pos}
theorem Qaq : PE X (.Dict [] [] pos) tDNewK := fun pins s σ H Q I h =>
 wpAny_Dict_empty ⟨.ref s.heap.objs.size, _, I.laid (a := s.heap.objs.size) (o := .dK []) (t' := s.toks) (fun _ _ q => Heap.get?_push_of_some _ q) (Nat.le_refl _) (QjI s.heap I.big), rfl, h _ (I.hok.fresh (Nat.le_refl _))⟩
end
structure M1 (X : Cx) (o : Expr) (m : Str) (apos : Pos) (e : Expr) (cpos : Pos) : Prop where
 base : attributeBase o m X.env (eval o X.env) = eval o X.env
 few : ((backTo cpos (starEach [e] X.env)).all (fun x => !x.1) && (backToKw cpos (keywordEach [] X.env)).all (fun x => x.1.isSome)
  && decide (([e] : List Expr).length + ([] : List Keyword).length + (if ([] : List Keyword).isEmpty then 0 else 1) < 30)) = true
 line : (apos.endLine == cpos.line) = true
 trees : backTo cpos (starEach [e] X.env) = [(false, eval e X.env)]
structure M2 (X : Cx) (o : Expr) (m : Str) (apos : Pos) (e f : Expr) (cpos : Pos) : Prop where
 base : attributeBase o m X.env (eval o X.env) = eval o X.env
 few : ((backTo cpos (starEach [e, f] X.env)).all (fun x => !x.1) && (backToKw cpos (keywordEach [] X.env)).all (fun x => x.1.isSome)
  && decide (([e, f] : List Expr).length + ([] : List Keyword).length + (if ([] : List Keyword).isEmpty then 0 else 1) < 30)) = true
 line : (apos.endLine == cpos.line) = true
 trees : backTo cpos (starEach [e, f] X.env) = [(false, eval e X.env), (false, eval f X.env)]
def IsD (H : Hp) (a : Addr) : Prop := (∃ kvs, Rd H a (.dK kvs)) ∨ ∃ kvs, Rd H a (.dT kvs)
theorem Qiw {X : Cx} {pins : Pn} {σ : St} {H : Hp} {s : Shared} {a : Addr} (I : Inv X pins σ H s) (d : IsD H a) :
  s.TypeIs (.ref a) "dict" ∧ (∀ b, Value.ref a = .ref b → ∃ ob, s.heap.get? b = some ob ∧ ob.dict = none) ∧ (a == sysModules) = false := by
 rcases d with ⟨kvs, e⟩ | ⟨kvs, e⟩
 ·obtain ⟨_, hd, vs, _, dd⟩ := Qgg I.hok e
  refine ⟨dd.typeIs, fun b q => ?_, hd⟩
  cases q
  obtain ⟨ob, _, _, h1, h2, _⟩ := dd
  exact ⟨ob, h1, h2.2.1⟩
 ·obtain ⟨_, hd, xs, _, dd⟩ := QgM I.hok e
  refine ⟨dd.typeIs, fun b q => ?_, hd⟩
  cases q
  obtain ⟨ob, _, _, h1, h2, _⟩ := dd
  exact ⟨ob, h1, h2.2.1⟩
section
variable {X : Cx} {pins : Pn} {σ : St} {H : Hp} {s : Shared} {a : Addr} {y d : V} {u r : Value} {o : Option V} {A : Around} {E : Value → Shared → Prop}
theorem d_get2 {Q : Value → Shared → Prop} (hu : A.units + 1 < cLine) (I : Inv X pins σ H s) (g : DGet H a y o) (ry : RelV y u) (rd : RelV d r) (h : ∀ w' s', Inv X pins σ H s' → RelV (o.getD d) w' → Q w' s') :
  wpAny (model X.prog X.w) A (call (.builtin "dict.get") [.ref a, u, r]) Q E s := by
 rcases g with ⟨kvs, k, e, ey, l⟩ | ⟨kvs, k, b, e, ey, eb, l⟩
 ·subst ey
  obtain ⟨z, hd, vs, rel, dd⟩ := Qgg I.hok e
  refine call_meetsIn PySem.F.slot_dict_get dd.typeIs PySem.F.entry_dict_get (PySem.F.args_dict_get_3 _ _ _) (meets_dict_get_default (Q0 X.prog X.w) a (Qfz ry) hd r) ⟨_, dd.mapOf, h _ _ (I.tok _) ?_⟩
  rw [l]
  exact (rel.val k).getD rd
 ·subst ey
  cases (show u = Value.ref b from ry)
  obtain ⟨z, hd, xs, rel, dd⟩ := QgM I.hok e
  refine call_meetsIn PySem.F.slot_dict_get dd.typeIs PySem.F.entry_dict_get (PySem.F.args_dict_get_3 _ _ _) (meetsH_dict_get_default (tupleKind (Q0 X.prog X.w)) a b hd r) ⟨tupleKind_room_in1 hu, k, xs, Qe3 I.hok eb, dd, h _ _ (I.tok _) ?_⟩
  rw [l]
  exact (rel.val k).getD rd
end
def tDGet2 (td ty tx : TE) : TE := fun σ H Q => td σ H fun x H1 => ∃ a, x = .ref a ∧ IsD H1 a ∧ ty σ H1 fun y H2 => tx σ H2 fun z H3 => ∃ o, DGet H3 a y o ∧ Q (o.getD z) H3
def tDPop1 (td ty : TE) : TE := fun σ H Q => td σ H fun x H1 => ∃ a, x = .ref a ∧ IsD H1 a ∧ ty σ H1 fun y H2 => ∃ kvs k v, H2 a = some (.dK kvs) ∧ y = kV k ∧ QaP kvs k = some v ∧ Q v (upd H2 a (.dK (Qc5 kvs k)))
section
variable {X : Cx} {o e f : Expr} {apos cpos : Pos} {td ty tx : TE}
theorem Qjq (hu : X.A.units + 1 < cLine) (ho : PE X o td) (he : PE X e ty) (hf : PE X f tx) (m : M2 X o "get" apos e f cpos) : PE X (.Call (.Attribute o "get" apos) [e, f] [] cpos) (tDGet2 td ty tx) := by
 intro pins s σ H Q I h
 refine wpAny_Call_method m.base m.few m.line PySem.F.plainAttrs_dict PySem.F.slot_dict_get PySem.F.type_dict_get (thn (ho pins s σ H _ I h) fun u s1 ⟨x, H1, I1, rx, a, ex, d, q1⟩ => ?_)
 subst ex
 obtain rfl : u = Value.ref a := rx
 obtain ⟨t1, t2, _⟩ := Qiw I1 d
 refine ⟨t1, t2, ?_⟩
 rw [m.trees]
 refine Calls.callWith_builtin rfl (Calls.evalArgs_plain (Calls.spliced_cons (thn (he pins s1 σ H1 _ I1 q1) fun iv s2 ⟨y, H2, I2, ry, q2⟩ =>
  Calls.spliced_cons (thn (hf pins s2 σ H2 _ I2 q2) fun fv s3 ⟨z, H3, I3, rz, ov, g, q3⟩ => Calls.spliced_nil ?_))))
 exact d_get2 hu I3 g ry rz fun w' s4 I4 rw' => ⟨_, H3, I4, rw', q3⟩
theorem Qg4 (ho : PE X o td) (he : PE X e ty) (m : M1 X o "pop" apos e cpos) : PE X (.Call (.Attribute o "pop" apos) [e] [] cpos) (tDPop1 td ty) := by
 intro pins s σ H Q I h
 refine wpAny_Call_method m.base m.few m.line PySem.F.plainAttrs_dict PySem.F.slot_dict_pop PySem.F.type_dict_pop (thn (ho pins s σ H _ I h) fun u s1 ⟨x, H1, I1, rx, a, ex, d, q1⟩ => ?_)
 subst ex
 obtain rfl : u = Value.ref a := rx
 obtain ⟨t1, t2, _⟩ := Qiw I1 d
 refine ⟨t1, t2, ?_⟩
 rw [m.trees]
 refine Calls.callWith_builtin rfl (Calls.evalArgs_plain (Calls.spliced_cons (thn (he pins s1 σ H1 _ I1 q1) fun iv s2 ⟨y, H2, I2, ry, kvs, k, v, ea, ey, l, q2⟩ => Calls.spliced_nil ?_)))
 subst ey
 exact d_pop I2 ea ry l (.inl rfl) fun w' s3 I3 rw' => ⟨v, _, I3, rw', q2⟩
end
section
variable {X : Cx} {pins : Pn} {σ : St} {H : Hp} {s : Shared} {a : Addr} {kvs : List (Key × V)} {A : Around} {E : Value → Shared → Prop}
end
section
variable {X : Cx} {pins : Pn} {σ : St} {H : Hp} {s : Shared} {a : Addr} {y : V} {u : Value} {A : Around} {E : Value → Shared → Prop}
end
end L2
namespace Att
open PySem PySem.W PySem.Calls PyProof.Rows
theorem Qez {P : Params} {h : Heap} : ∀ (ns : List Int) (vs : List Value), WellAll P h vs (ns.map WData.int) → IntsAre vs ns := by
 intro ns
 induction ns with
 | nil =>
  intro vs w
  rw [List.map_nil] at w
  cases w
  exact .nil
 | cons n ns ih =>
  intro vs w
  rw [List.map_cons] at w
  cases w with
  | cons a b =>
   cases a
   exact .cons _ _ (ih _ b)
theorem Qh4 {l : OpenLaw} {n : Nat} (hn : l.most = some n) {P : Params} {h : Heap} {args : List WData} {vals : List Value}
  (hpre : l.row.toRowW.claim.pre args = true) (hwl : WellAll P h vals args) :
  ∃ a vs ns, vals = [Value.ref a] ∧ args = [WData.list (ns.map WData.int)] ∧ h.get? a = some { cls := .type "list", data := .seq vs.toArray } ∧ IntsAre vs ns ∧ ns.length ≤ n := by
 have hsh : WShape.hasAll [] args [.list .int] = true := (pre_splitW hpre).1
 have hc : l.pre.holds [] { args := args } = true := (pre_splitW hpre).2
 obtain ⟨d, r, rfl, h1, h2⟩ := hasAllW_cons hsh
 obtain rfl := hasAllW_nil h2
 obtain ⟨xs, rfl, h3⟩ := hasW_list h1
 obtain ⟨ns, rfl⟩ := items_int h3
 have hlen : ns.length ≤ n := by
  unfold OpenLaw.pre at hc
  have h4 : (WTm.not (.lt (.lit (.int (n : Int))) (.len (.arg 0)))).holds [] { args := [.list (ns.map .int)] } = true := by
   have h4 := (holds_andW hc).1
   rw [hn] at h4
   exact h4
  have h5 := condW_of h4 (w_not (w_lt w_lit (w_len_list (w_arg rfl))))
  rw [List.length_map] at h5
  refine Nat.le_of_not_lt fun q => ?_
  have q' : (n : Int) < ((ns.length : Nat) : Int) := by omega
  first
   | (rw [decide_eq_true q'] at h5; exact absurd h5 (by decide))
   | (simp at h5; omega)
 cases hwl with
 | cons w1 w2 =>
  cases w2
  cases w1 with
  | list ho hall => exact ⟨_, _, ns, rfl, rfl, ho, Qez ns _ hall, hlen⟩
theorem Qh9 (l : OpenLaw) (args : List WData) : l.row.toRowW.claim.post args (.bool true) args = true :=
 postW_of (r := l.row.toRowW) (X := (true == true))
  (show WShape.has [] (.bool true) .bool = true by first | rfl | decide | simp [WShape.has, WShape.arms, WShape.armsAll])
  (show (WTm.eq .res (.lit (.bool true))).value [] { args := args, res := some (.bool true), after := args } = some (.bool (true == true)) from w_eq_bool (w_res rfl) w_lit) rfl
theorem attach_call {l : OpenLaw} {n : Nat} {q : Program} {loose : List Str} {XP : (Str → Option Value) → Heap → Prop} {YP : World → Heap → Prop} {d : DefRec}
  (hn : l.most = some n) (hdf : d.params.defaults = [])
  (call : ∀ (w : World) (s₀ s₁ : Shared) (mg mb : Str → Option Value) (fa : Addr) (o : Obj) (pm cd doc : Value) (a : Addr) (vs : List Value) (ns : List Int),
   Ground q loose [] XP w s₀ mg mb s₁.heap → YP w s₁.heap →
   s₁.heap.get? fa = some o → o.data = .func (docDef d.name d.params d.body d.scope pm cd doc) → s₁.heap.CodeRec cd d.name → mg d.name = some (.ref fa) →
   s₁.heap.get? a = some { cls := .type "list", data := .seq vs.toArray } → IntsAre vs ns → ns.length ≤ n → s₁.gens = #[] →
   codeAny (model l.prog w) callerA (.call (.ref fa) ⟨[.ref a], []⟩) (fun r s' => r = .ok (.ret (.bool true)) ∧ OldK s₁.heap s'.heap ∧ s'.os = s₁.os ∧ AllBare s'.gens) s₁) :
  WalkO q loose XP YP l.row.toRowW d [] (fun f vs => PySem.call f vs) := by
 intro w s₀ s₁ mg mb G Y fa o pm cd doc dV kV ho hd hcd hD hmg hg args vals as hpre hlay hrd hwl hlo
 obtain rfl : dV = .none := Dflts.none hD hdf
 obtain rfl : kV = .none := Dflts.noKw hD
 obtain ⟨a, vs, ns, rfl, rfl, hobj, hints, hlen⟩ := Qh4 hn hpre hwl
 refine enter_call (codeAny_mono (call w s₀ s₁ mg mb fa o pm cd doc a vs ns G Y ho (fd_plain hd) hcd hmg hobj hints hlen hg) fun r s' hq => ?_)
 obtain ⟨rfl, h2, h3, h4⟩ := hq
 exact ⟨.inl ⟨.bool true, .bool true, [], rfl, fun _ => rfl, .bool true, Qh9 l _, fun _ => ⟨List.Pairwise.nil, fun _ hm => (nomatch hm)⟩⟩, h2, h3, h4⟩
section
variable {prog : Program} {w : World} {A : Around} {E : Value → Shared → Prop} {s : Shared} {K : Frag}
def ledger (h : Heap) (L d : Addr) : Pn := (List.range h.objs.size).filterMap fun a => if a = L ∨ a = d then none else (h.get? a).map fun o => (a, o)
end
end Att
namespace L2
open PySem PySem.Spec PyProof.Rows
theorem QfP : ∀ {vs : List Value} {ns : List Int}, IntsAre vs ns → Vals (ns.map V.int) vs
 | _, _, .nil => .nil
 | _, _, .cons n t h => .cons ⟨t, rfl⟩ (QfP h)
def Only (H : Hp) : Prop := ∀ b, H b = none ∨ ∃ o xs, H b = some (.frz o (.lst xs))
theorem QjA {P : Program} {w : World} {K : Fg} {mg mb : Str → Option Value} {CX : CXT} {k : Nat} {fa a : Addr} {fd : FuncData} {x : Str} {sp : Sp} {s₁ : Shared} {vs : List Value} {ns : List Int}
  (KX : K.In s₁.heap) (hns : s₁.heap.Ns mainGlobals mg) (hb : s₁.heap.Ns builtinsNs mb) (hbb : ∀ x : Str, x ≠ "__name__" → mb x = bootBuiltins x) (hlim : s₁.heap.NoLimit) (hg : s₁.gens = #[])
  (ha : s₁.heap.get? a = some { cls := .type "list", data := .seq vs.toArray }) (hi : IntsAre vs ns) (hl : ns.length ≤ sizeLine) (hr : Room k callerA)
  (F : ∀ base : Heap, K.In base → base.Ns mainGlobals mg → FnOk P w K mg base CX k fa fd [x] sp) (hbind : ∀ (s : Shared) (u : Value), BindsTo s fd ⟨[u], []⟩ [(x, u)])
  (hsp : ∀ H : Hp, Only H → SqL K H a (ns.map V.int) → sp [.ref a] H (fun v _ => v = .bl true) fun _ _ _ => False)
  (hCX : ∀ H e s', CX [] H s₁ (fun _ _ _ => False) e s' → False) :
  codeAny (model P w) callerA (.call (.ref fa) ⟨[.ref a], []⟩) (fun r s' => r = .ok (.ret (.bool true)) ∧ OldK s₁.heap s'.heap ∧ s'.os = s₁.os ∧ AllBare s'.gens) s₁ := by
 have rv := QfP hi
 have lenV := hi.length
 have core : ∀ H : Hp, Only H → SqL K H a (ns.map V.int) → HOk P w H s₁.heap → (∀ b, H b ≠ none → b = a) → (H a ≠ none → K.lookup a = none) →
   codeAny (model P w) callerA (.call (.ref fa) ⟨[.ref a], []⟩) (fun r s' => r = .ok (.ret (.bool true)) ∧ OldK s₁.heap s'.heap ∧ s'.os = s₁.os ∧ AllBare s'.gens) s₁ := by
  intro H hO hS hok hA hK
  have base_of : ∀ {b : Addr} {o : Obj}, s₁.heap.get? b = some o → H b = none → (QjC s₁.heap H).get? b = some o := fun e n => QjB e n
  have noA : ∀ {b : Addr} {o : Obj} {es : Array DictEntry} {ep : Nat}, s₁.heap.get? b = some o → o.data = .dict es ep → H b = none := fun {b o es ep} e d => by
   cases q : H b with
   | none => rfl
   | some u =>
    have e' : b = a := hA b (by rw [q]; simp)
    subst e'
    rw [ha] at e; cases e
    have d' : Data.seq vs.toArray _ = Data.dict es ep := d
    cases d'
  have nsK : ∀ {b : Addr} {m : Str → Option Value}, s₁.heap.Ns b m → (QjC s₁.heap H).Ns b m := fun {b m} ⟨o, es, ep, e, d, r⟩ => ⟨o, es, ep, base_of e (noA e d), d, r⟩
  have hKb : K.In (QjC s₁.heap H) := fun b o e => base_of (KX b o e) (by
   cases q : H b with
   | none => rfl
   | some u =>
    have e' : b = a := hA b (by rw [q]; simp)
    subst e'
    rw [hK (by rw [q]; simp)] at e; cases e)
  have hM : Mod K mg (QjC s₁.heap H) := ⟨hKb, nsK hns, ⟨mb, nsK hb, hbb⟩, let ⟨mc, h1, h2⟩ := hlim; ⟨mc, nsK h1, h2⟩⟩
  have e0 : Env0 P w K mg (QjC s₁.heap H) callerA [] s₁ H := ⟨rfl, hM, fun b o e => QkE e, Nat.le_of_eq (Qiz _ _), trivial, fun b hb => absurd (show b ∈ ([] : List Addr) from hb) (by simp), hok, .of_eq hg⟩
  refine codeAny_mono ((F _ hKb (nsK hns)).run callerA [] s₁ H ⟨[.ref a], []⟩ [.ref a] [.ref a] _ _ hr e0 (hbind s₁ (.ref a)) (.cons rfl .nil) (hsp H hO hS)) fun r s' h => ?_
  cases r with
  | error e => exact (hCX H e s' h).elim
  | ok fl =>
   cases fl with
   | next => exact False.elim h
   | brk => exact False.elim h
   | cont => exact False.elim h
   | ret u =>
    obtain ⟨v, H', os, bare, un, hok', r', q⟩ := h
    have q' : v = .bl true := q
    subst q'
    obtain rfl : u = Value.bool true := r'
    refine ⟨rfl, OldK.of_keep fun b o e => ?_, os, bare⟩
    cases q : H b with
    | none => exact un.keep b o e q (by intro z; exact absurd (show b ∈ ([] : List Addr) from z) (by simp)) (by simp)
    | some u =>
     rcases hO b with z | ⟨ob, xs, z⟩
     ·rw [q] at z; cases z
     ·have z2 := un.frzs b ob _ z
      obtain ⟨e1, _⟩ := hok b _ z
      obtain ⟨e2, _⟩ := hok' b _ z2
      rw [e] at e1; cases e1
      exact e2
 cases hk : K.lookup a with
 | some o =>
  have e := KX a o hk
  rw [ha] at e
  cases e
  refine core (fun _ => none) (fun _ => .inl rfl) (.inr ⟨_, vs.toArray, _, hk, rfl, rfl, rfl, by rw [List.size_toArray, lenV]; exact hl, by simpa using rv⟩) (fun b u z => by have z' : (none : Option HO) = some u := z; cases z') (fun b z => absurd rfl z) fun z => absurd rfl z
 | none =>
  refine core (fun b => if b = a then some (.frz { cls := .type "list", data := .seq vs.toArray } (.lst (ns.map V.int))) else none) (fun b => ?_) (.inl (.inr ⟨{ cls := .type "list", data := .seq vs.toArray }, if_pos rfl⟩)) (fun b u z => ?_) (fun b z => ?_) fun _ => hk
  ·by_cases hb : b = a
   ·exact .inr ⟨_, _, if_pos hb⟩
   ·exact .inl (if_neg hb)
  ·by_cases hb : b = a
   ·have z' := (if_pos hb).symm.trans z
    cases z'
    subst hb
    exact ⟨ha, by rw [List.length_map]; exact hl, vs, _, rv, ha⟩
   ·have z' := (if_neg hb).symm.trans z
    cases z'
  ·by_cases hb : b = a
   ·exact hb
   ·exact absurd (if_neg hb) z
end L2
namespace L2
open PySem PySem.Spec PyProof.Rows
theorem walk_of {l : PySem.W.OpenLaw} {n k : Nat} {q : Program} {loose : List Str} {XP : (Str → Option Value) → Heap → Prop} {YP : World → Heap → Prop} {d : DefRec} {K : Params → Fg} {CX : World → CXT} {sp : World → Sp} {x : Str}
  (hn : l.most = some n) (hn2 : n ≤ sizeLine) (hdf : d.params.defaults = []) (hr : Room k callerA)
  (hY : ∀ (w : World) (h : Heap), YP w h → (K w.params).In h)
  (F : ∀ (w : World) (mg : Str → Option Value) (fa : Addr) (h : Heap), (K w.params).In h → h.Ns mainGlobals mg → mg d.name = some (.ref fa) →
   ∃ fd : FuncData, (∀ (s : Shared) (u : Value), BindsTo s fd ⟨[u], []⟩ [(x, u)]) ∧
    ∀ base : Heap, (K w.params).In base → base.Ns mainGlobals mg → FnOk l.prog w (K w.params) mg base (CX w) k fa fd [x] (sp w))
  (hsp : ∀ (w : World) (H : Hp) (a : Addr) (ns : List Int), ns.length ≤ n → Only H → SqL (K w.params) H a (ns.map V.int) → sp w [.ref a] H (fun v _ => v = .bl true) fun _ _ _ => False)
  (hCX : ∀ (w : World) (H : Hp) (s : Shared) (e : Value) (s' : Shared), CX w [] H s (fun _ _ _ => False) e s' → False) :
  PySem.W.WalkO q loose XP YP l.row.toRowW d [] (fun f vs => PySem.call f vs) := by
 refine Att.attach_call hn hdf fun w s₀ s₁ mg mb fa o pm cd doc a vs ns G Y ho hd hcd hmg hobj hints hlen hg => ?_
 have KX := hY w _ Y
 obtain ⟨fd, hb, hF⟩ := F w mg fa _ KX G.T.g hmg
 exact QjA KX G.T.g G.T.b G.T.builtins G.T.nolimit hg hobj hints (Nat.le_trans hlen hn2) hr hF hb (fun H hO hS => hsp w H a ns hlen hO hS) fun H e s' => hCX w H s₁ e s'
end L2
namespace L2
open PySem PySem.Spec PyProof.Rows
def QA (s : Stmt) (j : Nat) : Stmt := match s with
 | .ClassDef _ _ _ body _ _ _ _ _ _ _ => body.getD j (.Pass ⟨0, 0, 0, 0⟩)
 | _ => .Pass ⟨0, 0, 0, 0⟩
def QL (s : Stmt) : Arguments := match s with
 | .FunctionDef _ a _ _ _ _ _ _ _ _ => a
 | _ => { posonlyargs := [], args := [], vararg := none, kwonlyargs := [], kw_defaults := [], kwarg := none, defaults := [] }
def Qo (s : Stmt) : List Stmt := match s with
 | .FunctionDef _ _ b _ _ _ _ _ _ _ => b
 | _ => []
def Qg (s : Stmt) : Scope := match s with
 | .FunctionDef _ _ _ _ _ _ sc _ _ _ => sc
 | _ => { kind := .function, names := [], isGenerator := false, isCoroutine := false }
abbrev CX0 : CXT := fun _ _ _ _ _ _ => False
abbrev E0 : XK := fun _ _ _ => False
theorem QgC {X : Cx} : QeD CX0 X E0 := fun _ _ _ _ _ _ _ h => h.elim
structure Fun (K : Fg) (x qual : Str) (st : Stmt) (f : Addr) (fd : FuncData) : Prop where
 ex : ∃ (oc : Value) (od : Option Addr) (kV doc pm : Value) (an : Option Addr) (cdv ct : Value) (osl : Array (Option Value)),
  fd = PySem.W.fnOf x qual (QL st) (Qo st) (Qg st) .none kV doc pm an cdv ct ∧ K.lookup f = some ⟨oc, od, .func fd, osl⟩ ∧ PySem.W.codeIn K cdv qual = true
 kp : PySem.W.keepIn K (.ref f) = true
section
variable {P : Program} {w : World} {K : Fg} {mg : Str → Option Value} {base : Heap}
theorem Fun.ok {x qual : Str} {st : Stmt} {f : Addr} {fd : FuncData} {N ps : List Str} {k : Nat} {sp : Sp} (F : Fun K x qual st f fd) (S : Qj N ps (Qg st)) (len : ∀ vs H Q E, sp vs H Q E → vs.length = ps.length)
  (hbody : ∀ (cdv : Value) (A : Around) (outer : List Env) (s : Shared) (H : Hp) (vs : List V) (Q : VK) (E : XK), Room k (A.deeper (envOfC qual (Qg st) s.heap.objs.size f cdv)) → sp vs H Q E →
   ∃ t, PSs (QkP CX0 P w K mg base N qual (Qg st) f cdv A outer s H E).nox (Qo st) t ∧ t { nx := fun _ H' => Q .non H', rt := Q } (start N vs) H) : FnOk P w K mg base CX0 (k + 1) f fd ps sp := by
 obtain ⟨oc, od, kV, doc, pm, an, cdv, ct, osl, rfl, lk, hcd⟩ := F.ex
 refine fn_of lk hcd S len fun A outer s H vs Q E hr hsp => ?_
 obtain ⟨t, h, q⟩ := hbody cdv A outer s H vs Q E hr hsp
 exact ⟨t, h.nox, q⟩
theorem Fun.binds {x qual : Str} {st : Stmt} {f : Addr} {fd : FuncData} {ps : List Str} (F : Fun K x qual st f fd)
  (h : ∀ (kV doc pm : Value) (an : Option Addr) (cdv ct : Value) (us : List Value), us.length = ps.length → bindArgs (PySem.W.fnOf x qual (QL st) (Qo st) (Qg st) .none kV doc pm an cdv ct) ⟨us, []⟩ = pure (ps.zip us)) : Binds K fd ps [] := by
 obtain ⟨oc, od, kV, doc, pm, an, cdv, ct, osl, rfl, lk, hcd⟩ := F.ex
 exact .all (h kV doc pm an cdv ct)
theorem QiE {x qual : Str} {st : Stmt} {f : Addr} {oc : Value} {od an : Option Addr} {osl : Array (Option Value)} {kV doc pm cdv ct : Value} (l : K.lookup f = some ⟨oc, od, .func (PySem.W.fnOf x qual (QL st) (Qo st) (Qg st) .none kV doc pm an cdv ct), osl⟩)
  (c : PySem.W.codeIn K cdv qual = true) (k : PySem.W.keepIn K (.ref f) = true) : Fun K x qual st f (PySem.W.fnOf x qual (QL st) (Qo st) (Qg st) .none kV doc pm an cdv ct) := ⟨⟨oc, od, kV, doc, pm, an, cdv, ct, osl, rfl, l, c⟩, k⟩
end
theorem QC {A : Around} {k : Nat} (hr : Room k A) : A.units + 1 < cLine := Nat.lt_of_le_of_lt (Nat.add_le_add_left (by decide : 1 ≤ 64) _) hr.units
theorem QK {n : Nat} (h : n ≤ 1000) : n < sizeLine := Nat.lt_of_le_of_lt h (by decide)
section
variable {X : Cx}
theorem pv (i : Nat) {x : Str} {pos : Pos} (hN : X.N[i]? = some x := by rfl) (hv : Vis X.env.scope x := by first | exact Or.inl rfl | exact Or.inr (Or.inl rfl) | exact Or.inr (Or.inr rfl)) (hd : (x == ("__debug__" : Str)) = false := by decide)
  (hcd : (x == ("__classdict__" : Str)) = false := by decide) : PE X (.Name x pos) (tVar i) := pe_var hN hv hd hcd
theorem Qgk : QeE X (.builtin "len") (fun xs H Q => ∃ a kvs, xs = [V.ref a] ∧ H a = some (.dK kvs) ∧ Q (.int kvs.length) H) := by
 intro pins s σ H xs us Q I r h
 obtain ⟨a, kvs, rfl, ha, q⟩ := h
 obtain ⟨u, rfl, ru⟩ := Qfa r
 cases ru
 exact d_len I (.inl ha) fun t s' I' => ⟨.int kvs.length, H, I', ⟨t, rfl⟩, q⟩
end
theorem Qbz {A B : Prop} (h : B) : if false = true then A else B := by
 rw [if_neg Bool.false_ne_true]
 exact h
theorem Qcd {A B : Prop} (h : A) : if true = true then A else B := by
 rw [if_pos rfl]
 exact h
theorem QdI {c A B : Prop} [Decidable c] (h1 : c → A) (h2 : ¬ c → B) : if c then A else B := by
 by_cases h : c
 ·rw [if_pos h]
  exact h1 h
 ·rw [if_neg h]
  exact h2 h
theorem iteNS {c A B : Prop} [Decidable c] (hc : c) (h : B) : if (!decide c) = true then A else B := by
 rw [decide_eq_true hc]
 exact Qbz h
def Same (H H' : Hp) : Prop := ∀ b o, H b = some o → H' b = some o
theorem Same.refl (H : Hp) : Same H H := fun _ _ h => h
theorem Same.trans {H H1 H2 : Hp} (a : Same H H1) (b : Same H1 H2) : Same H H2 := fun c o h => b c o (a c o h)
theorem Same.free {H H' : Hp} (e : Same H H') {l : Addr} (h : H' l = Option.none) : H l = Option.none := by
 cases q : H l with
 | none => rfl
 | some o =>
  rw [e l o q] at h
  cases h
section
variable {κ : Type} [DecidableEq κ]
theorem Qi9 {kvs : List (κ × V)} {k : κ} (h : QaP kvs k = none) : ¬ k ∈ kvs.map (·.1) := by
 intro m
 obtain ⟨p, hp, e⟩ := List.mem_map.mp m
 have q : (kvs.any fun kv => decide (kv.1 = k)) = true := List.any_eq_true.mpr ⟨p, hp, decide_eq_true e⟩
 rw [QbY, h] at q
 exact absurd q (by simp)
theorem QhC {kvs : List (κ × V)} {k : κ} {v : V} (h : QaP kvs k = some v) : k ∈ kvs.map (·.1) := by
 have q : (kvs.any fun kv => decide (kv.1 = k)) = true := by
  rw [QbY, h]
  all_goals rfl
 obtain ⟨p, hp, e⟩ := List.any_eq_true.mp q
 exact List.mem_map.mpr ⟨p, hp, of_decide_eq_true e⟩
theorem QcY : ∀ {l : List κ} {k : κ}, l.Nodup → ¬ k ∈ l → (l ++ [k]).Nodup
 | [], k, _, _ => by simp
 | a :: r, k, h, hk => by
  obtain ⟨h1, h2⟩ := List.nodup_cons.mp h
  show (a :: (r ++ [k])).Nodup
  refine List.nodup_cons.mpr ⟨fun m => ?_, QcY h2 fun m => hk (List.mem_cons.mpr (Or.inr m))⟩
  rcases List.mem_append.mp m with q | q
  ·exact h1 q
  ·exact hk (List.mem_cons.mpr (Or.inl (List.mem_singleton.mp q).symm))
theorem QiJ {p : κ × V} {r : List (κ × V)} {k : κ} (e : p.1 = k) : Qc5 (p :: r) k = Qc5 r k := by
 unfold Qc5
 rw [List.filter_cons, if_neg (by simp [e])]
theorem Qgf {p : κ × V} {r : List (κ × V)} {k : κ} (e : ¬ p.1 = k) : Qc5 (p :: r) k = p :: Qc5 r k := by
 unfold Qc5
 rw [List.filter_cons, if_pos (by simp [e])]
theorem Qha : ∀ {kvs : List (κ × V)} {k : κ}, ¬ k ∈ kvs.map (·.1) → Qc5 kvs k = kvs
 | [], _, _ => rfl
 | p :: r, k, h => by
  have h' : ¬ k ∈ r.map (·.1) := fun m => by
   obtain ⟨q, hq, e⟩ := List.mem_map.mp m
   exact h (List.mem_map.mpr ⟨q, List.mem_cons.mpr (Or.inr hq), e⟩)
  rw [Qgf fun e => h (List.mem_map.mpr ⟨p, List.mem_cons.mpr (Or.inl rfl), e⟩), Qha h']
end
end L2
namespace L2
open PySem PySem.Spec PyProof.Rows
theorem Qe6 {α β : Type} {f : α → β → Sem (ForInStep β)} (g : α → β → β) : ∀ (l : List α) (c : β), (∀ x ∈ l, ∀ c, f x c = pure (.yield (g x c))) → forIn l c f = pure (l.foldl (fun c x => g x c) c)
 | [], _, _ => rfl
 | x :: l, c, h => by
  rw [List.forIn_cons, h x List.mem_cons_self, pure_bind]
  exact Qe6 g l (g x c) fun y hy => h y (List.mem_cons_of_mem _ hy)
def Qbl (env : Env) (y : Str × NameKind) (cs : List (Str × Addr)) : List (Str × Addr) := if (y.2 == NameKind.free) = true then (y.1, (env.cells.lookup y.1).getD 0) :: cs else cs
def Qdi (env : Env) (l : List (Str × NameKind)) (cs : List (Str × Addr)) : List (Str × Addr) := l.foldl (fun cs y => Qbl env y cs) cs
def QdO (env : Env) (l : List (Str × NameKind)) : Prop := ∀ y ∈ l, y.2 = .free → ∃ c, env.cells.lookup y.1 = some c
theorem QiT {sc : Scope} {env : Env} (h : QdO env sc.names) : closureFor sc env = pure (Qdi env sc.names []) := by
 simp only [closureFor]
 rw [Qe6 (Qbl env) sc.names [] (fun y hy cs => by
  obtain ⟨n, k⟩ := y
  unfold Qbl
  cases hk : (k == NameKind.free) with
  | false => simp only [hk, Bool.false_eq_true, if_false]
  | true =>
   obtain ⟨c, hc⟩ := h _ hy (by simpa using hk)
   have hc' : env.cells.lookup n = some c := hc
   simp only [hk, if_true, cellOf, hc']
   rfl)]
 rfl
theorem Qgi {env : Env} : ∀ {l : List (Str × NameKind)} {cs : List (Str × Addr)} {y : Str} {c : Addr}, QdO env l → (Qdi env l cs).lookup y = some c → env.cells.lookup y = some c ∨ cs.lookup y = some c
 | [], _, _, _, _, h => .inr h
 | (n, k) :: r, cs, y, c, hl, h => by
  have h : (Qdi env r (Qbl env (n, k) cs)).lookup y = some c := h
  have hr : QdO env r := fun z hz => hl z (List.mem_cons_of_mem _ hz)
  rcases Qgi hr h with q | q
  ·exact .inl q
  ·unfold Qbl at q
   by_cases e : (k == NameKind.free) = true
   ·rw [if_pos e] at q
    obtain ⟨c0, h0⟩ := hl (n, k) List.mem_cons_self (by simpa using e)
    have h0 : env.cells.lookup n = some c0 := h0
    rw [List.lookup_cons] at q
    cases e2 : (y == n) with
    | true =>
     rw [e2] at q
     have e3 : y = n := by simpa using e2
     subst e3
     left
     rw [h0] at q ⊢
     exact q
    | false =>
     rw [e2] at q
     exact .inr q
   ·rw [if_neg e] at q
    exact .inr q
theorem QfH {env : Env} : ∀ {l : List (Str × NameKind)} {cs : List (Str × Addr)} {y : Str} {c : Addr}, env.cells.lookup y = some c → ((y, NameKind.free) ∈ l ∨ cs.lookup y = some c) → (Qdi env l cs).lookup y = some c
 | [], _, _, _, _, h => by
  rcases h with h | h
  ·cases h
  ·exact h
 | (n, k) :: r, cs, y, c, hc, h => by
  show (Qdi env r (Qbl env (n, k) cs)).lookup y = some c
  refine QfH hc ?_
  unfold Qbl
  by_cases e : (k == NameKind.free) = true
  ·rw [if_pos e]
   by_cases e2 : y = n
   ·subst e2
    right
    rw [List.lookup_cons]
    simp [hc]
   ·rcases h with h | h
    ·rcases List.mem_cons.mp h with q | q
     ·cases q; exact absurd rfl e2
     ·exact .inl q
    ·right
     rw [List.lookup_cons]
     have e3 : (y == n) = false := by simpa using e2
     rw [e3]
     exact h
  ·rw [if_neg e]
   rcases h with h | h
   ·rcases List.mem_cons.mp h with q | q
    ·cases q; exact absurd rfl e
    ·exact .inl q
   ·exact .inr h
theorem Qdg {env : Env} (hk : env.scope.kind = .function) : ∀ {names : List (Str × NameKind)} {y : Str}, names.lookup y = some .free → env.kindOf y = some .cell →
  (names.map fun (n, k) => if (k == NameKind.free && env.scope.kind == .function && env.kindOf n == some .cell) then (n, NameKind.cell) else (n, k)).lookup y = some .cell
 | [], _, h, _ => by simp at h
 | (n, k) :: r, y, h, hy => by
  have ih := @Qdg env hk r y
  show List.lookup y ((if (k == NameKind.free && env.scope.kind == .function && env.kindOf n == some .cell) = true then (n, NameKind.cell) else (n, k)) :: _) = _
  cases hx : y == n with
  | true =>
   simp only [List.lookup_cons, hx] at h
   have e3 : y = n := by simpa using hx
   subst e3
   cases h
   rw [if_pos (by rw [hk, hy]; rfl)]
   simp [List.lookup_cons]
  | false =>
   simp only [List.lookup_cons, hx] at h
   by_cases hc : (k == NameKind.free && env.scope.kind == .function && env.kindOf n == some .cell) = true
   ·rw [if_pos hc]; simp only [List.lookup_cons, hx]; exact ih h hy
   ·rw [if_neg hc]; simp only [List.lookup_cons, hx]; exact ih h hy
theorem Qbe {env : Env} : ∀ {names : List (Str × NameKind)} {y : Str} {k' : NameKind},
  (names.map fun (n, k) => if (k == NameKind.free && env.scope.kind == .function && env.kindOf n == some .cell) then (n, NameKind.cell) else (n, k)).lookup y = some k' → names.lookup y = some k' ∨ names.lookup y = some .free
 | [], _, _, h => by simp at h
 | (n, k) :: r, y, k', h => by
  have h : List.lookup y ((if (k == NameKind.free && env.scope.kind == .function && env.kindOf n == some .cell) = true then (n, NameKind.cell) else (n, k)) :: r.map fun (n, k) => if (k == NameKind.free && env.scope.kind == .function && env.kindOf n == some .cell) then (n, NameKind.cell) else (n, k)) = some k' := h
  cases hx : y == n with
  | true =>
   simp only [List.lookup_cons, hx]
   by_cases hc : (k == NameKind.free && env.scope.kind == .function && env.kindOf n == some .cell) = true
   ·right
    have : (k == NameKind.free) = true := by
     simp only [Bool.and_eq_true] at hc
     exact hc.1.1
    have e : k = .free := by simpa using this
    rw [e]
   ·rw [if_neg hc] at h
    simp only [List.lookup_cons, hx] at h
    exact .inl h
  | false =>
   simp only [List.lookup_cons, hx]
   by_cases hc : (k == NameKind.free && env.scope.kind == .function && env.kindOf n == some .cell) = true
   ·rw [if_pos hc] at h; simp only [List.lookup_cons, hx] at h; exact Qbe h
   ·rw [if_neg hc] at h; simp only [List.lookup_cons, hx] at h; exact Qbe h
structure QD (osc : Scope) (oN : List Str) (sc : Scope) (x : Str) (N : List Str) (fr : List Nat) : Prop where
 kind : sc.kind = .function
 nocell : ∀ y ∈ sc.names, y.2 ≠ .cell
 names : ∀ y ∈ sc.names, y.2 = .local → sc.names.lookup y.1 = some .local
 free : ∀ y ∈ sc.names, y.2 = .free → osc.names.lookup y.1 = some .cell
 xl : sc.names.lookup x = some .local
 nd : (x :: N).Nodup
 ix : fr.map (fun i => oN[i]?) = N.map some
 fk : ∀ y ∈ N, sc.names.lookup y = some .free
def blk (X : Cx) (sc : Scope) (N : List Str) (C : Addr) (ex : List Addr) (s : Shared) (H : Hp) : Cx where
 prog := X.prog
 w := X.w
 K := X.K
 mg := X.mg
 base := X.base
 A := X.A
 N := N
 s₀ := s
 H₀ := H
 env := compEnvC sc (Qdi X.env sc.names []) C X.env
 outer := X.stack
 stack := X.stack
 ex := ex
 fn := fun _ => false
 calm := X.calm
 pn := []
 xe := fun _ _ => False
section
variable {X : Cx} {pins : Pn} {σ : St} {H : Hp} {s : Shared} {sc : Scope} {x : Str} {N : List Str} {fr : List Nat} {C : Addr} {ex : List Addr}
theorem Inv.cells (I : Inv X pins σ H s) (S : QD X.env.scope X.N sc x N fr) : QdO X.env sc.names := fun y hy hk => I.ok.has y.1 (.inl (S.free y hy hk))
theorem Inv.clos (I : Inv X pins σ H s) (S : QD X.env.scope X.N sc x N fr) {y : Str} {c : Addr} (h : (Qdi X.env sc.names []).lookup y = some c) : X.env.cells.lookup y = some c := by
 rcases Qgi (I.cells S) h with q | q
 ·exact q
 ·simp at q
theorem blk_ok (I : Inv X pins σ H s) (S : QD X.env.scope X.N sc x N fr) (hC : s.heap.objs.size ≤ C) (hf : ∀ b ∈ ex, Qhf X pins H b) (hlt : ∀ b ∈ ex, b < s.heap.objs.size) : (blk X sc (x :: N) C ex s H).Ok where
 mod := I.ok.mod
 kind := S.kind
 glob := I.ok.glob
 blt := I.ok.blt
 above := hC
 inj := fun a b c h1 h2 => I.ok.inj a b c (I.clos S h1) (I.clos S h2)
 has := fun y hy => by
  have hfree : sc.names.lookup y = some .free := by
   rcases hy with hy | hy
   ·rcases Qbe (env := X.env) (names := sc.names) hy with q | q
    ·exact absurd rfl (S.nocell _ (PySem.mem_of_lookup q))
    ·exact q
   ·rcases Qbe (env := X.env) (names := sc.names) hy with q | q
    ·exact q
    ·exact q
  obtain ⟨c, hc⟩ := I.cells S (y, .free) (PySem.mem_of_lookup hfree) rfl
  exact ⟨c, QfH hc (.inl (PySem.mem_of_lookup hfree))⟩
 cab := fun _ _ h => absurd (show false = true from h) Bool.false_ne_true
 hd := I.ok.hd
 frames := I.ok.frames
 stk := .inl rfl
 exf := fun b hb => ⟨Nat.ne_of_lt (Nat.lt_of_lt_of_le (hlt b hb) hC), fun y c h z => (hf b hb).2.2.2.2.1 y c (I.clos S h) z⟩
 bs := I.bs
 bsz := Nat.le_trans I.ok.bsz I.sz
 noex := fun b o e hb => by
  rcases (hf b hb).2.2.2.1 with z | z
  ·exact I.ok.noex b o e z
  ·exact absurd (Nat.lt_of_lt_of_le (Heap.lt_size e) (Nat.le_trans I.ok.bsz z)) (Nat.lt_irrefl _)
 exfs := fun b hb z => by
  rcases List.mem_cons.mp (I.stkSub b z) with q | q
  ·exact (hf b hb).2.1 q
  ·exact (hf b hb).2.2.1 q
 funs := I.stack
 frf := I.stkFree
def QfK (σ : St) (fr : List Nat) : St := fr.map fun i => (σ[i]?).join
theorem Qjh {i : Nat} {v : V} (h : (QfK σ fr)[i]? = some (some v)) : ∃ j, fr[i]? = some j ∧ σ[j]? = some (some v) := by
 unfold QfK at h
 rw [List.getElem?_map] at h
 cases e : fr[i]? with
 | none => rw [e] at h; cases h
 | some j =>
  rw [e] at h
  refine ⟨j, rfl, ?_⟩
  have h : (σ[j]?).join = some v := Option.some.inj h
  cases e2 : σ[j]? with
  | none => rw [e2] at h; cases h
  | some o => rw [e2] at h; have h : o = some v := h; rw [h]
theorem QiZ (I : Inv X pins σ H s) (S : QD X.env.scope X.N sc x N fr) (hC : s.heap.objs.size ≤ C) (hf : ∀ b ∈ ex, Qhf X pins H b) (hlt : ∀ b ∈ ex, b < s.heap.objs.size) {h' : Heap} {t' : Nat}
  (hn : ∃ m, h'.Ns C m) (k : ∀ b o, s.heap.get? b = some o → h'.get? b = some o) : Inv (blk X sc (x :: N) C ex s H) [] (none :: QfK σ fr) H { s with heap := h', toks := t' } := by
 obtain ⟨m, hn⟩ := hn
 have hlen : fr.length = N.length := by have := congrArg List.length S.ix; simpa using this
 refine ⟨blk_ok I S hC hf hlt, rfl, I.bare, Un.kept k, ⟨m, hn, fun i y v h1 h2 h3 => ?_⟩, fun y c h => ?_, I.hok.fresh hC, fun y c h => I.freeC y c (I.clos S h), fun p hp => absurd (show p ∈ ([] : Pn) from hp) (by simp), I.hok.kept k, ?_⟩
 ·cases i with
  | zero => cases (show some (none : Option V) = some (some v) from h2)
  | succ i =>
   have h2 : (QfK σ fr)[i]? = some (some v) := h2
   have h1 : N[i]? = some y := h1
   obtain ⟨j, hj, hv⟩ := Qjh h2
   have e1 : (fr.map fun i => X.N[i]?)[i]? = (N.map some)[i]? := by rw [S.ix]
   rw [List.getElem?_map, List.getElem?_map, hj, h1] at e1
   have e1 : X.N[j]? = some y := Option.some.inj e1
   have hfree := S.fk y (List.mem_of_getElem? h1)
   have hcell : X.env.scope.names.lookup y = some .cell := S.free (y, .free) (PySem.mem_of_lookup hfree) rfl
   obtain ⟨m0, _, hl⟩ := I.loc
   obtain ⟨u, ru, l⟩ := hl j y v e1 hv (.inr (.inl hcell))
   refine ⟨u, ru, ?_⟩
   rcases l with ⟨q, _⟩ | ⟨_, c, hc, o, ho, hd⟩
   ·have q : X.env.scope.names.lookup y = some .local := q
    rw [hcell] at q
    cases q
   ·exact .inr ⟨.inl (Qdg I.ok.kind hfree hcell), c, QfH hc (.inl (PySem.mem_of_lookup hfree)), o, k _ o ho, hd⟩
 ·obtain ⟨v, o, ho, hd⟩ := I.cell y c (I.clos S h)
  exact ⟨v, o, k _ o ho, hd⟩
 ·show (none :: QfK σ fr).length = (x :: N).length
  unfold QfK
  rw [List.length_cons, List.length_map, hlen, List.length_cons]
theorem Un.track {fs ex : List Addr} {H H' : Hp} {h h' : Heap} {D : Addr} {o : HO} (u : Un fs ex H H' h h') (hn : H' D = none) (hD : h.objs.size ≤ D) : Un fs ex H (upd H' D o) h h' where
 keep := u.keep
 slot := u.slot
 free := fun b ob e n hx => by rw [Qf (Nat.ne_of_lt (Nat.lt_of_lt_of_le (Heap.lt_size e) hD))]; exact u.free b ob e n hx
 there := u.there
 tups := fun b xs q => by rw [Qf (Qd (u.tups b xs q) hn)]; exact u.tups b xs q
 frzs := fun b ob xs q => by rw [Qf (Qd (u.frzs b ob xs q) hn)]; exact u.frzs b ob xs q
 tbls := fun b ps q => by
  obtain ⟨m, e⟩ := u.tbls b ps q
  exact ⟨m, by rw [Qf (Qd e hn)]; exact e⟩
theorem HOk.track {P : Program} {w : World} {H : Hp} {h : Heap} {D : Addr} {o : HO} (ok : HOk P w H h) (hn : H D = none) (new : ObjOk P w (upd H D o) h D o) : HOk P w (upd H D o) h := fun b u e => by
 by_cases hb : b = D
 ·subst hb; rw [Qb] at e; cases e; exact new
 ·rw [Qf hb] at e
  exact (ok b u e).stay (fun _ _ _ q => q) (fun c q => by rw [Qf (Qd q hn)]; exact q) fun c xs q => by rw [Qf (Qd q hn)]; exact q
end
section
variable {prog : Program} {w : World} {A : Around} {R : Result → Shared → Prop} {s : Shared}
abbrev NoE : Value → Shared → Prop := fun _ _ => False
theorem noE {α : Type} {M : Model} {A : Around} {t : Sem α} {Q : α → Shared → Prop} {E : Value → Shared → Prop} {s : Shared} (h : wpAny M A t Q NoE s) : wpAny M A t Q E s := wpAny_mono h (fun _ _ q => q) fun _ _ z => False.elim z
theorem QiS {elt target iter : Expr} {ifs : List Expr} {scope : Scope} {pos : Pos} {it acc : Value} {env : Env} (I : Nat → Shared → Prop)
  (turn : ∀ n s, I n s → wpAny (model prog w) A (pyNext it) (fun r s₁ => match r with
   | none => R (.ok .next) s₁
   | some v => wpAny (model prog w) A (letOwnedTupleGo target it v) (fun _ s₁ => wpAny (model prog w) A (assign target env v) (fun _ s₂ =>
     wpAny (model prog w) A (forIn ifs true fun c r => if r = true then do let ok ← isTrue c env (eval c env); pure (ForInStep.yield ok) else pure (ForInStep.yield r)) (fun ok s₃ =>
      if ok = true then wpAny (model prog w) A (eval elt env) (fun x s₄ =>
       wpAny (model prog w) A (call (.builtin "list.append") [acc, x]) (fun _ s₅ => ∃ m, m < n ∧ I m s₅) NoE s₄) NoE s₃
      else ∃ m, m < n ∧ I m s₃) NoE s₂) NoE s₁) NoE s₁) NoE s)
  (n : Nat) (h : I n s) :
  codeAny (model prog w) A (.compLoop (.ListComp elt [⟨target, iter, ifs, 0⟩] scope pos) 0 it acc env) R s := by
 refine codeAny_loop rfl I (fun n s hI => ?_) n h
 show wpAny _ A ((compTurn (.ListComp elt [⟨target, iter, ifs, 0⟩] scope pos) 0 it acc env).onRaise (fun x => do noteFrame x env; theTreesLotGoes x)) _ _ s
 refine wpAny_noted ?_
 rw [compTurn_list]
 refine noE (wpAny_bind (wpAny_standAt (wpAny_bind (wpAny_mono (turn n s hI) (fun r s₁ h₁ => ?_) fun _ _ h' => h'))))
 cases r with
 | none => exact wpAny_pure h₁
 | some v =>
  refine wpAny_bind (thn h₁ fun _ s₂ h₂ => wpAny_bind (thn h₂ fun _ s₃ h₃ => wpAny_bind (thn h₃ fun ok s₄ h₄ => ?_)))
  cases ok with
  | false => exact wpAny_pure ⟨rfl, h₄⟩
  | true => exact wpAny_bind (wpAny_bind (thn h₄ fun x s₅ h₅ => wpAny_bind (thn h₅ fun _ s₆ h₆ => wpAny_pure (wpAny_pure ⟨rfl, h₆⟩))))
end
def PIfs (X : Cx) (ifs : List Expr) (t : TT) : Prop :=
 ∀ (pins : Pn) (s : Shared) (σ : St) (H : Hp) (Q : Bool → Hp → Prop), Inv X pins σ H s → t σ H Q →
  wpAny (model X.prog X.w) X.A (forIn ifs true fun c r => if r = true then do let ok ← isTrue c X.env (eval c X.env); pure (ForInStep.yield ok) else pure (ForInStep.yield r)) (TP X pins σ Q) X.xe s
def Qfc : TT := fun _ H Q => Q true H
theorem QaM {X : Cx} : PIfs X [] Qfc := fun _ _ _ H _ I h => wpAny_tests_nil ⟨H, I, h⟩
theorem Qbi {X : Cx} {c : Expr} {t : TT} (h : PT X c t) : PIfs X [c] t := fun pins s σ H Q I hw => wpAny_tests_one (h pins s σ H Q I hw)
def QhJ (fr : List Nat) (tc : TT) (te : TE) (σ : St) (Q : VK) : It → Hp → Prop := fun J H1 => ∃ W : Nat → Nat → List V → Hp → Prop, (∃ m, W 0 m [] H1) ∧ ∀ i m ys H, W i m ys H →
 (J.stop i H ∧ ys.length ≤ sizeLine ∧ ∀ p, H p = none → Q (.ref p) (upd H p (.lst ys))) ∨
 (J.go i H ∧ ys.length < sizeLine ∧ ∃ N : List V → Hp → Prop, (∀ ys' H', N ys' H' → ∃ m', m' < m ∧ W (i + 1) m' ys' H') ∧ ∀ v H', J.yld i H v H' → tc (some v :: QfK σ fr) H' fun b H2 =>
  if b = true then te (some v :: QfK σ fr) H2 fun y H3 => N (ys ++ [y]) H3 else N ys H2)
def Qkk (wi : TI) (fr : List Nat) (tc : TT) (te : TE) : TE := fun σ H Q => wi σ H (QhJ fr tc te σ Q)
section
variable {X : Cx} {elt iter : Expr} {x : Str} {px pos : Pos} {ifs : List Expr} {sc : Scope} {N : List Str} {fr : List Nat} {wi : TI} {tc : TT} {te : TE}
abbrev lob (its : List Value) (n : Nat) : Obj := { cls := .type "list", data := .seq its.toArray n }
theorem Qgh (S : QD X.env.scope X.N sc x N fr) (hcalm : X.calm = true) (hc : ∀ C ex s H, PIfs (blk X sc (x :: N) C ex s H) ifs tc) (he : ∀ C ex s H, PE (blk X sc (x :: N) C ex s H) elt te)
  {pins : Pn} {σ : St} {H : Hp} {s : Shared} {E : Value → Shared → Prop} {it : Addr} {fp : List Addr} {tn : Nat → Heap → Prop} {J : It} {Q : VK} {RR : Value → Addr → Result → Shared → Prop}
  (I : Inv X pins σ H s) (T : QkU X.prog X.w X.K (.Name x px) J fp it tn) (st : tn 0 s.heap) (f2 : ∀ b ∈ fp, Qhf X pins H b)
  (hW : ∃ W : Nat → Nat → List V → Hp → Prop, (∃ m, W 0 m [] H) ∧ ∀ i m ys H, W i m ys H →
   (J.stop i H ∧ ys.length ≤ sizeLine ∧ ∀ p, H p = none → Q (.ref p) (upd H p (.lst ys))) ∨
   (J.go i H ∧ ys.length < sizeLine ∧ ∃ N : List V → Hp → Prop, (∀ ys' H', N ys' H' → ∃ m', m' < m ∧ W (i + 1) m' ys' H') ∧ ∀ v H', J.yld i H v H' → tc (some v :: QfK σ fr) H' fun b H2 =>
    if b = true then te (some v :: QfK σ fr) H2 fun y H3 => N (ys ++ [y]) H3 else N ys H2))
  (hRR : ∀ (D C : Addr) (H' : Hp) (s' : Shared), Inv X pins σ H' s' → (∃ o, s'.heap.get? C = some o ∧ (∃ m, s'.heap.Ns C m) ∧ ∀ v, o.data ≠ .cell v) → Qhf X pins H' C → Q (.ref D) H' → RR (.ref D) C (.ok .next) s') :
  wpAny (model X.prog X.w) X.A (newList []) (fun acc s₃ => wpAny (model X.prog X.w) X.A (newFunctionEnv sc X.env.globals (Qdi X.env sc.names []) [] X.env.qual none .none (some X.env)) (fun cenv s₄ =>
   codeAny (model X.prog X.w) X.A (.compStart (.ListComp elt [⟨.Name x px, iter, ifs, 0⟩] sc pos) 0 (.ref it) acc { cenv with scope := relabel sc X.env }) (RR acc cenv.locals) s₄) E s₃) E s := by
 obtain ⟨W, ⟨m0, w0⟩, turn⟩ := hW
 have hlt : ∀ b ∈ fp, b < s.heap.objs.size := fun b hb => let ⟨o, e, _⟩ := T.obj _ _ st b hb; Heap.lt_size e
 refine wpAny_newObj_type (wpAny_newFunctionEnv S.nocell (by intro y hy; simp at hy) (fun h₁ hns₁ hsb₁ => ?_) S.kind)
 dsimp only at hns₁ hsb₁ ⊢
 generalize hH2 : s.heap.push { cls := .type "list", dict := none, data := .seq ([] : List Value).toArray } = H2 at hns₁ hsb₁ ⊢
 have hC : H2.objs.size = s.heap.objs.size + 1 := by rw [← hH2, Heap.size_push]
 have hDC : s.heap.objs.size ≠ H2.objs.size := by rw [hC]; exact Nat.ne_of_lt (Nat.lt_succ_self _)
 have hCle : s.heap.objs.size ≤ H2.objs.size := by rw [hC]; exact Nat.le_succ _
 have old : ∀ b o, s.heap.get? b = some o → h₁.get? b = some o := fun b o e =>
  hsb₁.extBut b o (by rw [hC]; exact Nat.ne_of_lt (Nat.lt_succ_of_lt (Heap.lt_size e))) (Heap.get?_push_of_some _ (hH2 ▸ Heap.get?_push_of_some _ e))
 have eD : h₁.get? s.heap.objs.size = some (lob [] 0) := hsb₁.extBut _ _ hDC (Heap.get?_push_of_some _ (hH2 ▸ Heap.get?_push_size _ rfl))
 have fpX : ∀ {H' : Hp} {o : Obj}, (∀ b ∈ fp, H' b = none) → ∀ b ∈ fp, Qhf (blk X sc (x :: N) H2.objs.size fp s H) [(s.heap.objs.size, o)] H' b := fun {H' o} hn b hb => by
  refine ⟨hn b hb, Nat.ne_of_lt (Nat.lt_of_lt_of_le (hlt b hb) hCle), fun z => ?_, .inl hb, fun y c h => (f2 b hb).2.2.2.2.1 y c (I.clos S h), fun p hp z => ?_⟩
  ·rcases List.mem_cons.mp (I.stkSub b z) with q | q
   ·exact (f2 b hb).2.1 q
   ·exact (f2 b hb).2.2.1 q
  ·have hp : p = (s.heap.objs.size, o) := by simpa using (show p ∈ [] ++ [(s.heap.objs.size, o)] from hp)
   subst hp
   exact absurd (hlt b hb) (by rw [← z]; exact Nat.lt_irrefl _)
 have pinD : ∀ {pl : Pn} {σ' : St} {H' : Hp} {s' : Shared} {its : List Value} {n : Nat}, Inv (blk X sc (x :: N) H2.objs.size fp s H) pl σ' H' s' → s'.heap.get? s.heap.objs.size = some (lob its n) → H' s.heap.objs.size = none →
   Inv (blk X sc (x :: N) H2.objs.size fp s H) [(s.heap.objs.size, lob its n)] σ' H' s' := fun {pl σ' H' s' its n} J' e hn => by
  refine J'.pins_of fun p hp => ?_
  have hp : p = (s.heap.objs.size, lob its n) := by simpa using hp
  subst hp
  refine ⟨e, hn, hDC, fun z => ?_, fun v z => by cases z⟩
  obtain ⟨_, o, ho, _⟩ := I.stack.mem z
  exact absurd (Heap.lt_size ho) (Nat.lt_irrefl _)
 have IX : Inv (blk X sc (x :: N) H2.objs.size fp s H) [(s.heap.objs.size, lob [] 0)] (none :: QfK σ fr) H { s with heap := h₁, toks := s.toks + ([] : List (Str × Value)).length } :=
  pinD (QiZ I S hCle f2 hlt ⟨_, hns₁⟩ old) eD (I.hok.fresh (Nat.le_refl _))
 have st₁ : tn 0 h₁ := T.keep _ _ _ st fun b _ o e => old b o e
 have loop : ∀ s₃ : Shared, s₃ = { s with heap := h₁, toks := s.toks + ([] : List (Str × Value)).length } →
   codeAny (model X.prog X.w) X.A (.compLoop (.ListComp elt [⟨.Name x px, iter, ifs, 0⟩] sc pos) 0 (.ref it) (.ref s.heap.objs.size) (blk X sc (x :: N) H2.objs.size fp s H).env)
    (RR (.ref s.heap.objs.size) H2.objs.size) s₃ := by
  rintro s₃ rfl
  refine QiS (fun n s' => ∃ i v0 its c ys H', Inv (blk X sc (x :: N) H2.objs.size fp s H) [(s.heap.objs.size, lob its c)] (v0 :: QfK σ fr) H' s' ∧ Vals ys its ∧ tn i s'.heap ∧ (∀ b ∈ fp, H' b = none) ∧ W i n ys H') ?_ m0
   ⟨0, none, [], 0, [], H, IX, .nil, st₁, fun b hb => (f2 b hb).1, w0⟩
  rintro n s4 ⟨i, v0, its, c, ys, H4, I4, rv, st4, fr4, w4⟩
  have pD := I4.pin (s.heap.objs.size, lob its c) (List.mem_append_right _ (List.mem_singleton.mpr rfl))
  rcases turn i n ys H4 w4 with ⟨stop, hz, fin⟩ | ⟨go, hz, NN, hNN, step⟩
  ·refine thn (T.done (blk X sc (x :: N) H2.objs.size fp s H) rfl rfl rfl hcalm i _ s4 _ H4 NoE I4 (fpX fr4) st4 stop) fun r s5 ⟨hr, I5⟩ => ?_
   subst hr
   obtain ⟨e5, n5, _⟩ := I5.pin (s.heap.objs.size, lob its c) (List.mem_append_right _ (List.mem_singleton.mpr rfl))
   have e5 : s5.heap.get? s.heap.objs.size = some (lob its c) := e5
   have n5 : H4 s.heap.objs.size = none := n5
   have IF : Inv X pins σ (upd H4 s.heap.objs.size (.lst ys)) s5 := I.call' (ch := fp) I5.os (Un.track I5.base n5 (Nat.le_refl _)) (HOk.track I5.hok n5 ⟨hz, its, c, rv, e5⟩) I5.bare
    fun b hb => ⟨(f2 b hb).2.2.2.1, (f2 b hb).2.1, (f2 b hb).2.2.2.2.1, (f2 b hb).2.2.2.2.2⟩
   obtain ⟨mC, nsC, _⟩ := I5.loc
   obtain ⟨oC, esC, epC, hoC, hdC, _⟩ := id nsC
   refine hRR _ _ _ s5 IF ⟨oC, hoC, ⟨mC, nsC⟩, fun v z => by rw [hdC] at z; cases z⟩ (I.fpOk hCle ?_) (fin _ n5)
   rw [Qf (Ne.symm hDC)]
   exact I5.free
  ·refine thn (T.item (blk X sc (x :: N) H2.objs.size fp s H) rfl rfl rfl hcalm i _ s4 _ H4 NoE I4 (fpX fr4) st4 go) fun r s5 ⟨u, hr, h5⟩ => ?_
   subst hr
   refine thn h5 fun _ s6 ⟨v, H6, I6, r6, y6, st6, fr6⟩ => ?_
   have I6' := I6.pinned (fpX fr6) (T.obj _ _ st6)
   refine wpAny_assign_Name (Qcx (i := 0) I6' S.nd rfl (.inl (lookup_relabel_local S.xl)) r6 (fun s7 I7 => ?_) (.inr (lookup_relabel_local S.xl)))
   have I7 : Inv (blk X sc (x :: N) H2.objs.size fp s H) ([(s.heap.objs.size, lob its c)] ++ QeX fp s6.heap) (some v :: QfK σ fr) H6 s7 := I7
   refine thn (hc _ _ _ _ _ s7 _ H6 _ I7 (step v H6 y6)) fun b s8 ⟨H8, I8, q8⟩ => ?_
   have atFp : ∀ {σ' : St} {H' : Hp} {s' : Shared}, Inv (blk X sc (x :: N) H2.objs.size fp s H) ([(s.heap.objs.size, lob its c)] ++ QeX fp s6.heap) σ' H' s' → tn (i + 1) s'.heap ∧ ∀ b ∈ fp, H' b = none := fun {σ' H' s'} J' => by
    refine ⟨T.keep _ _ _ st6 fun b hb o e => (J'.pin (b, o) (List.mem_append_right _ (List.mem_append_right _ (Qb2 hb e)))).1, fun b hb => ?_⟩
    obtain ⟨o, e, _⟩ := T.obj _ _ st6 b hb
    exact (J'.pin (b, o) (List.mem_append_right _ (List.mem_append_right _ (Qb2 hb e)))).2.1
   cases b with
   | false =>
    have q8 : NN ys H8 := q8
    obtain ⟨m', hm, w8⟩ := hNN _ _ q8
    obtain ⟨a1, a2⟩ := atFp I8
    exact ⟨m', hm, i + 1, some v, its, c, ys, H8, I8.unpinned, rv, a1, a2, w8⟩
   | true =>
    refine thn (he _ _ _ _ _ s8 _ H8 _ I8 q8) fun y s9 ⟨yv, H9, I9, r9, q9⟩ => ?_
    obtain ⟨m', hm, w9⟩ := hNN _ _ q9
    obtain ⟨e9, n9, _⟩ := I9.pin (s.heap.objs.size, lob its c) (List.mem_append_right _ (List.mem_append_left _ (List.mem_singleton.mpr rfl)))
    have e9 : s9.heap.get? s.heap.objs.size = some (lob its c) := e9
    have n9 : H9 s.heap.objs.size = none := n9
    obtain ⟨a1, a2⟩ := atFp I9
    have hl : ys.length = its.length := rv.length
    refine call_meets F.slot_list_append ⟨_, e9, rfl⟩ F.entry_list_append (F.args_list_append_2 _ _) (PySem.list_append s.heap.objs.size its.toArray c y (by rw [List.size_toArray]; omega)) ⟨e9, ?_⟩
    have q := PySem.IsL.update e9 (·.push y)
    have hpush : its.toArray.push y = (its ++ [y]).toArray := by simp
    rw [hpush] at q
    have kO : ∀ b o, b ≠ s.heap.objs.size → s9.heap.get? b = some o → (s9.heap.update s.heap.objs.size (Obj.mapSeq (·.push y))).get? b = some o := fun b o hb e => (Heap.get?_update_other s9.heap _ (Ne.symm hb)).trans e
    have J1 : Inv (blk X sc (x :: N) H2.objs.size fp s H) [] (some v :: QfK σ fr) H9 s9 := I9.pins_of fun p hp => absurd hp (by simp)
    have J2 := J1.turned (it := s.heap.objs.size) (t' := s9.toks) kO n9 hDC (.inr (Nat.le_refl _)) (fun z cc h e => by
     obtain ⟨vv, o, ho, _⟩ := I.cell z cc (I.clos S h)
     exact absurd (Heap.lt_size ho) (by rw [e]; exact Nat.lt_irrefl _)) (fun p hp => absurd (show p ∈ ([] : Pn) from hp) (by simp))
    refine ⟨m', hm, i + 1, some v, its ++ [y], _, ys ++ [yv], H9, pinD J2 q n9, rv.append (.cons r9 .nil), T.keep _ _ _ a1 fun b hb o e => kO b o (Nat.ne_of_lt (hlt b hb)) e, a2, w9⟩
 exact codeAny_compStart_list (loop _ rfl) (T.self _ 0 _ _ _ st₁ (loop _ rfl))
theorem QaZ (S : QD X.env.scope X.N sc x N fr) (hcalm : X.calm = true) (hi : PI X (.Name x px) iter wi) (hc : ∀ C ex s H, PIfs (blk X sc (x :: N) C ex s H) ifs tc) (he : ∀ C ex s H, PE (blk X sc (x :: N) C ex s H) elt te)
  (hs : ∀ v, foldedSetIterable iter X.env v = pure v := by intro _; rfl) : PE X (.ListComp elt [⟨.Name x px, iter, ifs, 0⟩] sc pos) (Qkk wi fr tc te) := by
 intro pins s σ H Q I h
 rw [eval_ListComp]
 refine wpAny_comprehension_free (use := none) rfl hs (QiT (I.cells S)) S.kind S.names (thn (hi pins s σ H _ I h) fun v s1 h1 => thn h1 fun itv s2 h2 => ?_)
 obtain ⟨it, fp, tn, J, H2, e, I2, T, st2, f2, hW⟩ := h2
 subst e
 refine Qgh (RR := fun acc C => compPost (model X.prog X.w) X.A X.xe none (EP X pins σ Q) acc C) S hcalm hc he I2 T st2 f2 hW fun D C H' s' I' ⟨o, ho, ⟨m, hn⟩, hd⟩ fC q => ?_
 obtain ⟨f0, f1, f3, f4, f5, f6⟩ := fC
 exact ⟨m, hn, fun h' hsb => ⟨.ref D, H', I'.turned (t' := s'.toks) (fun b ob hb e => (hsb.2 b hb).trans e) f0 f1 f4 f5 f6, rfl, q⟩⟩
theorem Qa1 {i : Nat} {y : Str} {py spos : Pos} (S : QD X.env.scope X.N sc x N fr) (hcalm : X.calm = true) (hN : X.N.Nodup) (hi' : X.N[i]? = some y) (hy : Loc X.env.scope y) (hi : PI X (.Name x px) iter wi)
  (hc : ∀ C ex s H, PIfs (blk X sc (x :: N) C ex s H) ifs tc) (he : ∀ C ex s H, PE (blk X sc (x :: N) C ex s H) elt te)
  (hsw : swapsWith (.ListComp elt [⟨.Name x px, iter, ifs, 0⟩] sc pos) (some (.Name y py)) spos.line X.env = pure true := by rfl)
  (hf : X.fn y = true ∨ X.env.scope.names.lookup y = some .local := by first | exact .inl rfl | exact .inr rfl | assumption)
  (hs : ∀ v, foldedSetIterable iter X.env v = pure v := by intro _; rfl) : PS X (.Assign [.Name y py] (.ListComp elt [⟨.Name x px, iter, ifs, 0⟩] sc pos) spos) (tAsg (Qkk wi fr tc te) (QiD i)) := by
 intro pins s σ H D I h
 rw [exec_Assign_Name_used _ _ _ _ hsw]
 refine wpAny_bind (wpAny_standAt (wpAny_bind ?_))
 show wpAny _ X.A (do let _ ← comprehension (.ListComp elt [⟨.Name x px, iter, ifs, 0⟩] sc pos) sc X.env _ (newList []) false (eval iter X.env) (some (assign (.Name y py) X.env))) _ _ s
 refine wpAny_bind (wpAny_mono (wpAny_comprehension_free (use := some (assign (.Name y py) X.env)) (Q := fun _ s' => SP X pins D .next s') rfl hs (QiT (I.cells S)) S.kind S.names
  (thn (hi pins s σ H _ I h) fun v s1 h1 => thn h1 fun itv s2 h2 => ?_)) (fun _ s' hq => wpAny_pure (wpAny_pure hq)) fun _ _ e => e)
 obtain ⟨it, fp, tn, J, H2, e, I2, T, st2, f2, hW⟩ := h2
 subst e
 refine Qgh (RR := fun acc C => compPost (model X.prog X.w) X.A X.xe (some (assign (.Name y py) X.env)) (fun _ s' => SP X pins D .next s') acc C) (Q := fun v H1 => QiD i v σ H1 D.nx) S hcalm hc he I2 T st2 f2 hW fun A C H' s' I' ⟨o, ho, ⟨m, hn⟩, hd⟩ fC q => ?_
 obtain ⟨f0, f1, f3, f4, f5, f6⟩ := fC
 have IP : Inv X (pins ++ [(C, o)]) σ H' s' := I'.pins_of fun p hp => by
  rcases List.mem_append.mp hp with z | z
  ·exact I'.pin p (List.mem_append_right _ z)
  ·have z : p = (C, o) := by simpa using z
   subst z
   exact ⟨ho, f0, f1, f3, hd⟩
 show wpAny _ X.A (assign (.Name y py) X.env (.ref A)) _ _ s'
 refine wpAny_assign_Name (Qcx (v := .ref A) IP hN hi' hy rfl (fun s5 I5 => ?_) hf)
 have e5 := (I5.pin (C, o) (List.mem_append_right _ (List.mem_append_right _ (List.mem_singleton.mpr rfl)))).1
 refine ⟨m, hn.at' fun ob e => ?_, fun h' hsb => ⟨_, H', I5.unpinned.turned (t' := s5.toks) (fun b ob hb e => (hsb.2 b hb).trans e) f0 f1 f4 f5 f6, q⟩⟩
 rw [ho] at e
 cases e
 exact e5
end
theorem Qa6 {lo : Int} {n : Nat} {tc : TT} {te : TE} {σ : St} {fr : List Nat} {H : Hp} {Q : VK} (Pv : Nat → List V → Hp → Prop) (h0 : Pv 0 [] H) (hz : ∀ i ys H, Pv i ys H → ys.length ≤ i) (hn : n ≤ sizeLine)
  (hs : ∀ (i : Nat) (ys : List V) (H : Hp), i < n → Pv i ys H → tc (some (.int (lo + i)) :: QfK σ fr) H fun b H2 => if b = true then te (some (.int (lo + i)) :: QfK σ fr) H2 fun y H3 => Pv (i + 1) (ys ++ [y]) H3 else Pv (i + 1) ys H2)
  (hd : ∀ ys H, Pv n ys H → ∀ p, H p = none → Q (.ref p) (upd H p (.lst ys))) : QhJ fr tc te σ Q (Itr lo n) H := by
 refine ⟨fun i m ys H => m = n - i ∧ i ≤ n ∧ Pv i ys H, ⟨n, by simp, Nat.zero_le _, h0⟩, ?_⟩
 rintro i m ys H ⟨rfl, hi, p⟩
 have hl := hz i ys H p
 by_cases hlt : i < n
 ·refine .inr ⟨hlt, by omega, Pv (i + 1), fun ys' H' q => ⟨n - (i + 1), by omega, rfl, hlt, q⟩, fun v H' y => ?_⟩
  obtain ⟨e, y⟩ := y
  subst e y
  exact hs i ys _ hlt p
 ·have e : i = n := by omega
  subst e
  exact .inl ⟨Nat.le_refl _, by omega, hd ys H p⟩
theorem Z2 {K : Fg} {a : Addr} {xs : List V} {tc : TT} {te : TE} {σ : St} {fr : List Nat} {H : Hp} {Q : VK} (Pv : Nat → List V → Hp → Prop) (h0 : Pv 0 [] H) (hz : ∀ i ys H, Pv i ys H → ys.length ≤ i) (hn : xs.length ≤ sizeLine)
  (hl : ∀ i ys H, i ≤ xs.length → Pv i ys H → SqL K H a xs)
  (hs : ∀ (i : Nat) (x : V) (ys : List V) (H : Hp), xs[i]? = some x → Pv i ys H → tc (some x :: QfK σ fr) H fun b H2 => if b = true then te (some x :: QfK σ fr) H2 fun y H3 => Pv (i + 1) (ys ++ [y]) H3 else Pv (i + 1) ys H2)
  (hd : ∀ ys H, Pv xs.length ys H → ∀ p, H p = none → Q (.ref p) (upd H p (.lst ys))) : QhJ fr tc te σ Q (Itl K a) H := by
 refine ⟨fun i m ys H => m = xs.length - i ∧ i ≤ xs.length ∧ Pv i ys H, ⟨xs.length, by simp, Nat.zero_le _, h0⟩, ?_⟩
 rintro i m ys H ⟨rfl, hi, p⟩
 have q0 := hl i ys H hi p
 have hl := hz i ys H p
 by_cases hlt : i < xs.length
 ·refine .inr ⟨⟨xs, xs[i], q0, by simp [hlt]⟩, by omega, Pv (i + 1), fun ys' H' q => ⟨xs.length - (i + 1), by omega, rfl, hlt, q⟩, fun v H' y => ?_⟩
  obtain ⟨e, y⟩ := y
  subst e
  exact hs i v ys _ (y xs q0) p
 ·have e : i = xs.length := by omega
  subst e
  exact .inl ⟨⟨xs, q0, Nat.le_refl _⟩, by omega, hd ys H p⟩
end L2
namespace L2
open PySem PySem.Spec PyProof.Rows
section
variable {X : Cx} {pins : Pn} {σ : St} {H : Hp} {s : Shared}
theorem Inv.turned2 {e it : Addr} {h' : Heap} {t' : Nat} {o : HO} (I : Inv X pins σ H s) (hf : ∀ b ∈ [e, it], Qhf X pins H b)
  (k : ∀ b ob, b ≠ e → b ≠ it → s.heap.get? b = some ob → h'.get? b = some ob) (new : ObjOk X.prog X.w (upd H s.heap.objs.size o) h' s.heap.objs.size o) :
  Inv X pins σ (upd H s.heap.objs.size o) { s with heap := h', toks := t' } := by
 obtain ⟨e0, e1, _, e3, e4, e5⟩ := hf e (by simp)
 obtain ⟨i0, i1, _, i3, i4, i5⟩ := hf it (by simp)
 have ne : ∀ b ob, s.heap.get? b = some ob → b ≠ s.heap.objs.size := fun b ob q => Nat.ne_of_lt (Heap.lt_size q)
 have hn : H s.heap.objs.size = none := I.hok.fresh (Nat.le_refl _)
 have notin : ∀ b, b ∉ [e, it] → b ≠ e ∧ b ≠ it := fun b hb => ⟨fun z => hb (by simp [z]), fun z => hb (by simp [z])⟩
 refine I.step (g' := s.gens) (d' := s.drawn) (ch := [e, it]) (fun b hb => ?_) (fun b ob _ _ hc q _ => k b ob (notin b hc).1 (notin b hc).2 q) (fun b ob _ _ hc q _ => ⟨ob.slots, k b ob (notin b hc).1 (notin b hc).2 q⟩)
  (fun b ob _ q n => by rw [Qf (ne b ob q)]; exact n) (fun b ob hc q => ⟨ob, k b ob (notin b hc).1 (notin b hc).2 q⟩) (fun b xs q => by rw [Qf (Qd q hn)]; exact q)
  (fun b ob u q => by rw [Qf (Qd q hn)]; exact q) (fun b ps q => ⟨#[], by rw [Qf (Qd q hn), q]; simp⟩) (fun m hm => ?_) (fun b u q => ?_) I.bare
 ·rcases List.mem_cons.mp hb with z | z
  ·subst z; exact ⟨e3, e1, e4, e5⟩
  ·have z : b = it := by simpa using z
   subst z; exact ⟨i3, i1, i4, i5⟩
 ·obtain ⟨ob, es, ep, ho, r⟩ := hm
  exact ⟨ob, es, ep, k _ ob (Ne.symm e1) (Ne.symm i1) ho, r⟩
 ·by_cases hb : b = s.heap.objs.size
  ·subst hb; rw [Qb] at q; cases q; exact new
  ·rw [Qf hb] at q
   have nfp : ∀ c v, H c = some v → c ≠ e ∧ c ≠ it := fun c v z => ⟨Qd z e0, Qd z i0⟩
   refine (I.hok b u q).stay (fun c v hc z => ?_) (fun c z => by rw [Qf (Qd z hn)]; exact z) fun c xs z => by rw [Qf (Qd z hn)]; exact z
   rcases hc with y | y
   ·subst y; exact k _ v (nfp _ _ q).1 (nfp _ _ q).2 z
   ·exact k _ v (nfp _ _ y).1 (nfp _ _ y).2 z
end
section
variable {P : Program} {w : World} {H : Hp} {h : Heap} {a : Addr} {o : HO}
theorem ObjOk.has (x : ObjOk P w H h a o) : ∃ ob, h.get? a = some ob := by
 cases o with
 | lst xs => obtain ⟨_, _, _, _, e⟩ := x; exact ⟨_, e⟩
 | tup xs => obtain ⟨_, _, _, ob, e, _⟩ := x; exact ⟨_, e⟩
 | dK kvs => obtain ⟨_, _, _, _, ob, _, _, e, _⟩ := x; exact ⟨_, e⟩
 | dT kvs => obtain ⟨_, _, _, _, ob, _, _, e, _⟩ := x; exact ⟨_, e⟩
 | set S n => obtain ⟨ob, _, _, _, e, _⟩ := x; exact ⟨_, e⟩
 | ins C dx fs => obtain ⟨_, _, _, e, _⟩ := x; exact ⟨_, e⟩
 | own y => exact x
 | xd fs => obtain ⟨_, ⟨_, _, _, e, _⟩, _⟩ := x; exact ⟨_, e⟩
 | rng lo hi => obtain ⟨_, _, _, e⟩ := x; exact ⟨_, e⟩
 | frz ob u => obtain ⟨e, _⟩ := x; exact ⟨_, e⟩
 | tbl ps => exact ⟨_, x⟩
 | met f y => exact ⟨_, x⟩
 | ext φ => obtain ⟨_, e, _⟩ := x; exact e
theorem HOk.freeAt (x : HOk P w H h) (e : h.get? a = none) : H a = none := by
 cases q : H a with
 | none => rfl
 | some u =>
  obtain ⟨ob, z⟩ := (x a u q).has
  rw [z] at e; cases e
end
section
variable {X : Cx} {pins : Pn} {σ : St} {H : Hp} {s : Shared}
theorem Inv.laidN {a : Addr} {o : HO} {t' : Nat} {h' : Heap} (I : Inv X pins σ H s) (k : ∀ b u, s.heap.get? b = some u → h'.get? b = some u) (ha : s.heap.get? a = none) (new : ObjOk X.prog X.w (upd H a o) h' a o) :
  Inv X pins σ (upd H a o) { s with heap := h', toks := t' } := by
 have hn := I.hok.freeAt ha
 have ne : ∀ b u, s.heap.get? b = some u → b ≠ a := fun b u q z => by rw [z, ha] at q; cases q
 refine I.un ⟨fun b u q _ _ _ => k b u q, fun b u q _ _ _ => ⟨u.slots, k b u q⟩, fun b u q n _ => by rw [Qf (ne b u q)]; exact n, fun b u q _ => ⟨u, k b u q⟩, fun b xs q => by rw [Qf (Qd q hn)]; exact q,
  fun b u xs q => by rw [Qf (Qd q hn)]; exact q, fun b ps q => ⟨#[], by rw [Qf (Qd q hn), q]; simp⟩⟩ fun b u q => ?_
 by_cases hb : b = a
 ·subst hb; rw [Qb] at q; cases q; exact new
 ·rw [Qf hb] at q
  exact (I.hok b u q).stay (fun c v _ z => k c v z) (fun c z => by rw [Qf (Qd z hn)]; exact z) fun c xs z => by rw [Qf (Qd z hn)]; exact z
end
def Ite (a : Addr) : It :=
  ⟨fun i H => ∃ xs x, H a = some (.lst xs) ∧ xs[i]? = some x,
   fun i H v H' => ∃ p x, H p = none ∧ v = .ref p ∧ H' = upd H p (.tup [.int (i : Int), x]) ∧ ∀ xs, H a = some (.lst xs) → xs[i]? = some x,
   fun i H => ∃ xs, H a = some (.lst xs) ∧ xs.length ≤ i⟩
theorem QhE {P : Program} {w : World} {K : Fg} {elts : List Expr} {x1} {pos : Pos} (a e it : Addr) (hne : e ≠ it) :
  QkU P w K (.Tuple elts x1 pos) (Ite a) [e, it] e (fun i h => ∃ old, IsEnum h e it ((i : Nat) : Int) old ∧ h.IsListIter it a i) where
 mem := by simp
 obj := fun i h st b hb => by
  obtain ⟨old, he, o, ho, hc, hd⟩ := st
  rcases List.mem_cons.mp hb with z | z
  ·subst z; exact ⟨_, he, fun v z => by cases z⟩
  ·have z : b = it := by simpa using z
   subst z; exact ⟨o, ho, fun v z => by rw [hd] at z; cases z⟩
 keep := fun i h h' ⟨old, he, hit⟩ k => ⟨old, k e (by simp) _ he, hit.at fun o q => k it (by simp) o q⟩
 item := by
  intro X hP hw hK hc i pins s σ H E I hf st hg
  subst hP hw hK
  obtain ⟨old, he, hit⟩ := st
  obtain ⟨xs, x, hq, hx⟩ := hg
  obtain ⟨its, rv, p, hz⟩ := I.list (SqL.of hq)
  obtain ⟨u, hu, ru⟩ := rv.get hx
  refine wpAny_pyNext_enum_item he hit p.isList (x := u) (by simpa using hu) hne fun h1 heo hit1 ht1 hz1 hk1 => ⟨_, rfl, ?_⟩
  refine wpAny_letOwnedTupleGo_enum heo fun h2 he2 hs2 => ?_
  have hs2 : Heap.SameBut e h1 h2 := hs2
  have heH : e < s.heap.objs.size := Heap.lt_size he
  have hn : H s.heap.objs.size = none := I.hok.fresh (Nat.le_refl _)
  have ht2 : h2.get? s.heap.objs.size = some { cls := .type "tuple", data := .seq #[.int i s.toks, u] } := (hs2.2 _ (Nat.ne_of_gt heH)).trans ht1
  have I2 : Inv X pins σ (upd H s.heap.objs.size (.tup [.int (i : Int), x])) { s with heap := h2, toks := s.toks + 1 } := by
   refine I.turned2 hf (fun b ob h1' h2' q => (hs2.2 b h1').trans (hk1 b ob h1' h2' q)) ?_
   exact ⟨by rw [sizeLine_eq]; simp, [.int i s.toks, u], .cons ⟨_, rfl⟩ (.cons ru .nil), ⟨_, ht2, rfl, 0, rfl⟩⟩
  refine ⟨.ref s.heap.objs.size, _, I2, rfl, ⟨_, x, hn, rfl, rfl, fun ys hy => ?_⟩, ⟨u, ?_, ?_⟩, fun b hb => ?_⟩
  ·rw [hq] at hy; cases hy; exact hx
  ·have : ((i + 1 : Nat) : Int) = (i : Int) + 1 := by push_cast; rfl
   rw [this]; exact he2
  ·exact hit1.extBut hs2.extBut (Ne.symm hne)
  ·rw [Qf]
   ·exact (hf b hb).1
   ·rcases List.mem_cons.mp hb with z | z
    ·subst z; exact Nat.ne_of_lt heH
    ·have z : b = it := by simpa using z
     subst z
     obtain ⟨o, ho, _⟩ := hit
     exact Nat.ne_of_lt (Heap.lt_size ho)
 done := by
  intro X hP hw hK hc i pins s σ H E I hf st hg
  subst hP hw hK
  obtain ⟨old, he, hit⟩ := st
  obtain ⟨xs, hq, hx⟩ := hg
  obtain ⟨its, rv, p, hz⟩ := I.list (SqL.of hq)
  obtain ⟨f0, f1, f2, f3, f4, f5⟩ := hf it (by simp)
  have hl := rv.length
  exact wpAny_pyNext_enum_end (I.ok.hd hc) he hit p.isList (by simp; omega) fun h' eb => ⟨rfl, I.turned (t' := s.toks) (fun b o hb e => eb b o hb e) f0 f1 f3 f4 f5⟩
 self := fun _ _ _ _ _ ⟨_, he, _⟩ h => wpAny_pyIter_enum he h
section
variable {X : Cx}
def iEnum (ta : TA) : TI := fun σ H R => ta σ H fun vs H1 => ∃ a xs, vs = [.ref a] ∧ H1 a = some (.lst xs) ∧ R (Ite a) H1
theorem Qfl {elts : List Expr} {x1} {tpos : Pos} {l : Expr} {ta : TA} {p pos : Pos} (hg : Gl X "enumerate") (hm : X.mg "enumerate" = none) (ha : PA X [l] ta) (hs : starEach [l] X.env = [(false, eval l X.env)] := by rfl) :
  PI X (.Tuple elts x1 tpos) (.Call (.Name "enumerate" p) [l] [] pos) (iEnum ta) := by
 intro pins s σ H R I h
 refine Call_ (Qex I hg hm boot_enumerate (PyProof.Rows.callWith_type1 (thn (ha pos pins s σ H _ I h) fun us s1 ⟨vs, H1, I1, r1, q1⟩ => ?_) hs rfl))
 obtain ⟨a, xs, e, hq, q⟩ := q1
 subst e
 obtain ⟨u, rfl, ru⟩ := Qfa r1
 cases ru
 obtain ⟨z, its, n, rv, eo⟩ := I1.hok a _ hq
 refine call_enumerate_1 eo fun h' he hit hz hk => wpAny_pyIter_enum he ?_
 have I2 : Inv X pins σ H1 { s1 with heap := h' } := I1.kept (t' := s1.toks) hk
 refine ⟨_, [s1.heap.objs.size + 1, s1.heap.objs.size], _, _, H1, rfl, I2, QhE a _ _ (Nat.succ_ne_self _), ⟨.none, he, hit⟩, fun b hb => ?_, q⟩
 rcases List.mem_cons.mp hb with z | z
 ·subst z; exact I1.fpOk (Nat.le_succ _) (I1.hok.fresh (Nat.le_succ _))
 ·have z : b = s1.heap.objs.size := by simpa using z
  subst z; exact I1.fpOk (Nat.le_refl _) (I1.hok.fresh (Nat.le_refl _))
end
theorem QdL {a : Addr} {xs : List V} {g : TG} {tb : TS} {D : Qi7} {σ : St} {H : Hp} (Pv : Nat → St → Hp → Prop) (h0 : Pv 0 σ H) (hl : ∀ i σ H, i ≤ xs.length → Pv i σ H → H a = some (.lst xs))
  (hs : ∀ i x σ H p, xs[i]? = some x → Pv i σ H → H p = none → g (.ref p) σ (upd H p (.tup [.int (i : Int), x])) fun σ2 H2 => tb { D with nx := Pv (i + 1), ct := Pv (i + 1), bk := D.nx } σ2 H2) (hd : ∀ σ H, Pv xs.length σ H → D.nx σ H) :
  ∃ W : Nat → Nat → St → Hp → Prop, (∃ m, W 0 m σ H) ∧ ∀ i m σ H, W i m σ H →
   ((Ite a).stop i H ∧ D.nx σ H) ∨ ((Ite a).go i H ∧ ∃ N : St → Hp → Prop, (∀ σ' H', N σ' H' → ∃ m', m' < m ∧ W (i + 1) m' σ' H') ∧ ∀ x H', (Ite a).yld i H x H' → g x σ H' fun σ2 H2 => tb { D with nx := N, ct := N, bk := D.nx } σ2 H2) := by
 refine ⟨fun i m σ H => m = xs.length - i ∧ i ≤ xs.length ∧ Pv i σ H, ⟨xs.length, by simp, Nat.zero_le _, h0⟩, ?_⟩
 rintro i m σ H ⟨rfl, hi, p⟩
 have q := hl i σ H hi p
 by_cases hlt : i < xs.length
 ·refine .inr ⟨⟨xs, xs[i], q, by simp [hlt]⟩, Pv (i + 1), fun σ' H' p' => ⟨xs.length - (i + 1), by omega, rfl, hlt, p'⟩, fun v H' y => ?_⟩
  obtain ⟨pp, x, hp, e1, e2, hx⟩ := y
  subst e1 e2
  exact hs i x σ H pp (hx xs q) p hp
 ·have e : i = xs.length := by omega
  subst e
  exact .inl ⟨⟨xs, q, Nat.le_refl _⟩, hd σ H p⟩
def gPair (i j : Nat) : TG := fun v σ H Q => ∃ p x y, v = .ref p ∧ H p = some (.tup [x, y]) ∧ Q ((σ.set i (some x)).set j (some y)) H
theorem Qed {X : Cx} {i j : Nat} {x y : Str} {px py pos : Pos} {k : Nat} (hc : X.calm = true) (hN : X.N.Nodup) (hi : X.N[i]? = some x) (hj : X.N[j]? = some y) (hx : Loc X.env.scope x) (hy : Loc X.env.scope y)
  (hfx : X.fn x = true ∨ X.env.scope.names.lookup x = some .local := by first | exact .inl rfl | exact .inr rfl | assumption) (hfy : X.fn y = true ∨ X.env.scope.names.lookup y = some .local := by first | exact .inl rfl | exact .inr rfl | assumption) :
  PG X (.Tuple [.Name x px, .Name y py] k pos) (gPair i j) := by
 intro pins s σ H v u Q I r h
 obtain ⟨p, a, b, rfl, hp, q⟩ := h
 have h := pg_tup (pos := pos) (k := k) (n := 2) hc (Qg2 (QS (pos := px) (i := i) hN hi hx hfx) (Qg2 (QS (pos := py) (i := j) hN hj hy hfy) QkA))
 exact h pins s σ H (.ref p) u Q I r ⟨p, [a, b], rfl, SqT.of hp, rfl, a, [b], rfl, b, [], rfl, rfl, q⟩
section
variable {X : Cx}
def QH (lo : Int) (n : Nat) : List Int := (List.range n).map fun (k : Nat) => lo + (k : Int)
theorem QJ (lo : Int) (n : Nat) : (QH lo n).length = n := by simp [QH]
theorem Qe4 {lo : Int} {n i : Nat} (h : i < n) : (QH lo n)[i]? = some (lo + i) := by simp [QH, h]
theorem QbV : ∀ {us : List Value} {ns : List Int}, IntsAre us ns → Vals (ns.map V.int) us
 | _, _, .nil => .nil
 | _, _, .cons n t h => .cons ⟨t, rfl⟩ (QbV h)
theorem Qgj : QeE X (.builtin "sorted") (fun xs H Q => ∃ (a : Addr) (ns : List Int), xs = [.ref a] ∧ SqL X.K H a (ns.map V.int) ∧ ns.length < 64 ∧
  ∀ (p : Addr) (ns' : List Int), H p = none → ns'.Perm ns → ns'.Pairwise (· ≤ ·) → Q (.ref p) (upd H p (.lst (ns'.map V.int)))) := by
 intro pins s σ H xs us Q I r h
 obtain ⟨a, ns, rfl, ha, h64, q⟩ := h
 obtain ⟨u, rfl, ru⟩ := Qfa r
 cases ru
 obtain ⟨its, rv, p, hz⟩ := I.list ha
 have hI : IntsAre its ns := Qht rv
 have hl := hI.length
 refine sorted_ints p.isList hI (by omega) fun out ns' a1 a2 a3 => ?_
 obtain ⟨e, eo⟩ := sortedAll_at s.heap its out
 have hle : s.heap.objs.size ≤ s.heap.objs.size + 1 := Nat.le_succ _
 refine ⟨.ref (s.heap.objs.size + 1), _, I.laid (t' := s.toks) (o := .lst (ns'.map V.int)) (fun b ob q => sortedAll_old q) hle ?_, rfl, q _ ns' (I.hok.fresh hle) a2 a3⟩
 have hlen := a2.length_eq
 exact ⟨by rw [List.length_map, sizeLine_eq]; omega, out.toList, e, QbV a1, by simpa using eo⟩
theorem Qc1 : ∀ {us : List Value} {ns : List Int}, us.length = ns.length → (∀ (i : Nat) (n : Int) (u : Value), ns[i]? = some n → us[i]? = some u → ∃ t, u = Value.int n t) → IntsAre us ns
 | [], [], _, _ => .nil
 | [], _ :: _, h, _ => by simp at h
 | _ :: _, [], h, _ => by simp at h
 | u :: us, n :: ns, h, f => by
  obtain ⟨t, e⟩ := f 0 n u rfl rfl
  subst e
  exact .cons n t (Qc1 (by simpa using h) fun i y v h1 h2 => f (i + 1) y v (by simpa using h1) (by simpa using h2))
theorem QbU (hc : X.A.handled = none) : QeE X (.builtin "sorted") (fun xs H Q => ∃ (d : Addr) (kvs : List (Key × V)) (ns : List Int), xs = [.ref d] ∧ H d = some (.dK kvs) ∧ kvs.map (·.1) = ns.map (fun n => (Sum.inl n : Key)) ∧ ns.length < 64 ∧
  ∀ (p : Addr) (ns' : List Int), H p = none → ns'.Perm ns → ns'.Pairwise (· ≤ ·) → Q (.ref p) (upd H p (.lst (ns'.map V.int)))) := by
 intro pins s σ H xs us Q I r h
 obtain ⟨d, kvs, ns, rfl, hd, hk, h64, q⟩ := h
 obtain ⟨u, rfl, ru⟩ := Qfa r
 cases ru
 obtain ⟨hz, hS, vs, rel, dd⟩ := QiL I.hok hd
 obtain ⟨ep, hat⟩ := dd.dictAt
 have hlen : kvs.length = vs.length := rel.length
 have hkl : kvs.length = ns.length := by have := congrArg List.length hk; simpa using this
 have hks : vs.map (·.1) = ns.map (fun n => (Sum.inl n : Key)) := by rw [← hk]; exact (KV.keys rel).symm
 refine Calls.call_function_entry kind_sorted plain_sorted entry_sorted (args_sorted1 _) ?_
 unfold Builtin.«sorted»
 refine wpAny_bind (m := checkCount "sorted" 1 1 _) (wpAny_pure ?_)
 refine wpAny_bind (PySem.W.kdu_collect (A := X.A.in1) (PySem.W.kdl_dict (knd := Q0 X.prog X.w) (kvs := vs) (ep := ep) hS) hc hat (by rw [← hlen]; exact hz) fun h' tk acc hkp hacc => ?_)
 have hal : acc.toList.length = ns.length := by rw [Array.length_toList, hacc.1, ← hlen, hkl]
 have hI : IntsAre acc.toList ns := Qc1 hal fun i n v e1 e2 => by
  obtain ⟨k, x, e3, e4⟩ := hacc.2 i v (by rw [← Array.getElem?_toList]; exact e2)
  have e5 : (vs.map (·.1))[i]? = some k := by rw [List.getElem?_map, e3]; rfl
  rw [hks, List.getElem?_map, e1] at e5
  have e5 : (Sum.inl n : Key) = k := Option.some.inj e5
  subst e5
  have e4 : Value.isInt n v = true := e4
  obtain ⟨t, e⟩ := Value.isInt_shape e4
  exact ⟨t, e⟩
 refine wpAny_bind (wpAny_newList ?_ (by rw [hal, sizeLine_eq]; omega))
 have hoL : (h'.push (seqObj "list" acc.toList.toArray 0)).get? h'.objs.size = some (seqObj "list" acc.toList.toArray 0) := Heap.get?_push_size _ rfl
 refine wpAny_bind (wpAny_holding (wpAny_call_entry slot_list_sort ⟨_, hoL, rfl⟩ entry_list_sort (list_sort_tree (s := { s with heap := h'.push (seqObj "list" acc.toList.toArray 0), toks := tk }) hoL hI (by omega) fun out ns' a1 a2 a3 => ⟨_, rfl, ?_⟩) (args_list_sort _)))
 refine wpAny_pure ⟨_, rfl, ?_⟩
 obtain ⟨e, eo⟩ := sortedHeap_at (out := out) hoL
 have hfree : s.heap.get? h'.objs.size = none := by
  cases z : s.heap.get? h'.objs.size with
  | none => rfl
  | some o0 => exact absurd (Heap.lt_size (hkp _ o0 z)) (Nat.lt_irrefl _)
 refine ⟨.ref h'.objs.size, _, I.laidN (t' := tk) (o := .lst (ns'.map V.int)) (fun b ob q => ?_) hfree ?_, rfl, q _ ns' (I.hok.freeAt hfree) a2 a3⟩
 ·rw [sortedHeap_old (Nat.ne_of_lt (Heap.lt_size (hkp b ob q))) (by rw [size_push']; exact Nat.lt_succ_of_lt (Heap.lt_size (hkp b ob q)))]
  exact Heap.get?_push_of_some _ (hkp b ob q)
 ·exact ⟨by rw [List.length_map, a2.length_eq, sizeLine_eq]; omega, out.toList, e, QbV a1, by simpa using eo⟩
end
end L2
namespace L2
open PySem PySem.Spec PyProof.Rows
section
variable {X : Cx}
theorem QdM : QeE X (.builtin "isinstance") (fun xs H Q => ∃ x T t b, xs = [x, .ty T] ∧ TyOf X.K H x t ∧ PySem.W.kitOne X.K t (.type T) = some b ∧ Q (.bl b) H) := by
 intro pins s σ H xs us Q I r h
 obtain ⟨x, T, t, b, rfl, ty, e, q⟩ := h
 obtain ⟨u, w', rfl, rx, rT⟩ := vals2 r
 cases rT
 exact Qiv I rx ty e fun tk => ⟨.bl b, H, I.tok tk, rfl, q⟩
end
structure FunD (K : Fg) (x qual : Str) (st : Stmt) (f : Addr) (fd : FuncData) (ds : List Value) : Prop where
 ex : ∃ (oc : Value) (od : Option Addr) (T : Addr) (kV doc pm : Value) (an : Option Addr) (cdv ct : Value) (osl : Array (Option Value)) (oT : Obj) (n : Nat),
  fd = PySem.W.fnOf x qual (QL st) (Qo st) (Qg st) (.ref T) kV doc pm an cdv ct ∧ K.lookup f = some ⟨oc, od, .func fd, osl⟩ ∧ PySem.W.codeIn K cdv qual = true ∧ K.lookup T = some oT ∧ oT.data = .seq ds.toArray n
 kp : PySem.W.keepIn K (.ref f) = true
section
variable {P : Program} {w : World} {K : Fg} {mg : Str → Option Value} {base : Heap}
theorem FunD.ok {x qual : Str} {st : Stmt} {f : Addr} {fd : FuncData} {ds : List Value} {N ps : List Str} {k : Nat} {sp : Sp} (F : FunD K x qual st f fd ds) (S : Qj N ps (Qg st)) (len : ∀ vs H Q E, sp vs H Q E → vs.length = ps.length)
  (hbody : ∀ (cdv : Value) (A : Around) (outer : List Env) (s : Shared) (H : Hp) (vs : List V) (Q : VK) (E : XK), Room k (A.deeper (envOfC qual (Qg st) s.heap.objs.size f cdv)) → sp vs H Q E →
   ∃ t, PSs (QkP CX0 P w K mg base N qual (Qg st) f cdv A outer s H E).nox (Qo st) t ∧ t { nx := fun _ H' => Q .non H', rt := Q } (start N vs) H) : FnOk P w K mg base CX0 (k + 1) f fd ps sp := by
 obtain ⟨oc, od, T, kV, doc, pm, an, cdv, ct, osl, oT, n, rfl, lk, hcd, _⟩ := F.ex
 refine fn_of lk hcd S len fun A outer s H vs Q E hr hsp => ?_
 obtain ⟨t, h, q⟩ := hbody cdv A outer s H vs Q E hr hsp
 exact ⟨t, h.nox, q⟩
theorem FunD.binds {x qual : Str} {st : Stmt} {f : Addr} {fd : FuncData} {ds es : List Value} {ps : List Str} (F : FunD K x qual st f fd ds)
  (h : ∀ (T : Addr) (kV doc pm : Value) (an : Option Addr) (cdv ct : Value) (us : List Value), (us ++ es).length = ps.length → ∃ k : Option (Array Value) → Sem (List (Str × Value)),
   bindArgs (PySem.W.fnOf x qual (QL st) (Qo st) (Qg st) (.ref T) kV doc pm an cdv ct) ⟨us, []⟩ = seqItems? (.ref T) >>= k ∧ k (some ds.toArray) = pure (ps.zip (us ++ es))) : Binds K fd ps es := by
 obtain ⟨oc, od, T, kV, doc, pm, an, cdv, ct, osl, oT, n, rfl, lk, hcd, hT, hd⟩ := F.ex
 intro s us KX hl
 obtain ⟨k, h1, h2⟩ := h T kV doc pm an cdv ct us hl
 exact BindsTo.of_defaults rfl (KX _ _ hT) hd h1 h2
theorem QiF {x qual : Str} {st : Stmt} {f T : Addr} {oc : Value} {od an : Option Addr} {osl : Array (Option Value)} {kV doc pm cdv ct : Value} {oT : Obj} {ds : List Value} {n : Nat} (l : K.lookup f = some ⟨oc, od, .func (PySem.W.fnOf x qual (QL st) (Qo st) (Qg st) (.ref T) kV doc pm an cdv ct), osl⟩)
  (c : PySem.W.codeIn K cdv qual = true) (k : PySem.W.keepIn K (.ref f) = true) (hT : K.lookup T = some oT) (hd : oT.data = .seq ds.toArray n) : FunD K x qual st f (PySem.W.fnOf x qual (QL st) (Qo st) (Qg st) (.ref T) kV doc pm an cdv ct) ds := ⟨⟨oc, od, T, kV, doc, pm, an, cdv, ct, osl, oT, n, rfl, l, c, hT, hd⟩, k⟩
end
end L2
namespace L2
open PySem PySem.Spec PyProof.Rows
structure QjM (P : Program) (w : World) (K : Fg) (a : Addr) (kvs : List (Key × V)) : Prop where
 at_ : ∃ vs, KV kvs vs ∧ ∀ h : Heap, K.In h → h.DictOf (Q0 P w) a vs
 ns : (a == sysModules) = false
def tKGet2 (kvs : List (Key × V)) (ty tx : TE) : TE := fun σ H Q => ty σ H fun y H2 => tx σ H2 fun z H3 => ∃ k, y = kV k ∧ Q ((QaP kvs k).getD z) H3
theorem Qjp {X : Cx} {a : Addr} {kvs : List (Key × V)} {g : Str} {p apos cpos : Pos} {e f : Expr} {ty tx : TE} (D : QjM X.prog X.w X.K a kvs) (hg : Gl X g) (hm : X.mg g = some (.ref a)) (he : PE X e ty) (hf : PE X f tx) (m : M2 X (.Name g p) "get" apos e f cpos)
  (hd : (g == ("__debug__" : Str)) = false := by decide) : PE X (.Call (.Attribute (.Name g p) "get" apos) [e, f] [] cpos) (tKGet2 kvs ty tx) := by
 intro pins s σ H Q I h
 obtain ⟨vs, rel, at_⟩ := D.at_
 refine wpAny_Call_method m.base m.few m.line PySem.F.plainAttrs_dict PySem.F.slot_dict_get PySem.F.type_dict_get (Qfw I hg hm ?_ hd)
 have dd := at_ _ I.kIn
 refine ⟨dd.typeIs, fun b q => ?_, ?_⟩
 ·cases q
  obtain ⟨ob, _, _, h1, h2, _⟩ := dd
  exact ⟨ob, h1, h2.2.1⟩
 ·rw [m.trees]
  refine Calls.callWith_builtin rfl (Calls.evalArgs_plain (Calls.spliced_cons (thn (he pins s σ H _ I h) fun iv s2 ⟨y, H2, I2, ry, q2⟩ =>
   Calls.spliced_cons (thn (hf pins s2 σ H2 _ I2 q2) fun fv s3 ⟨z, H3, I3, rz, k, ey, q3⟩ => Calls.spliced_nil ?_))))
  subst ey
  have d3 := at_ _ I3.kIn
  refine call_meetsIn PySem.F.slot_dict_get d3.typeIs PySem.F.entry_dict_get (PySem.F.args_dict_get_3 _ _ _) (meets_dict_get_default (Q0 X.prog X.w) a (Qfz ry) D.ns fv) ⟨_, d3.mapOf, ?_⟩
  exact ⟨_, H3, I3.tok _, (rel.val k).getD rz, q3⟩
theorem kdict2 {P : Program} {w : World} {K : Fg} {a : Addr} {ep : Nat} {h1 h2 : Int} {x1 x2 : Str} {t1 t2 u1 u2 : Tok} {i1 i2 : Int} (lk : K.lookup a = some ⟨.type "dict", none, .dict #[⟨h1, .str x1 t1, .int i1 u1⟩, ⟨h2, .str x2 t2, .int i2 u2⟩] ep, #[]⟩)
  (e1 : h1 = hashStr w x1) (e2 : h2 = hashStr w x2) (ne : x1 ≠ x2) (ns : (a == sysModules) = false) : QjM P w K a [(Sum.inr x1, .int i1), (Sum.inr x2, .int i2)] := by
 refine ⟨⟨[(Sum.inr x1, .int i1 u1), (Sum.inr x2, .int i2 u2)], .cons ⟨rfl, _, rfl⟩ (.cons ⟨rfl, _, rfl⟩ .nil), fun h KX => ?_⟩, ns⟩
 refine ⟨_, _, ep, KX _ _ lk, ⟨rfl, rfl, rfl⟩, rfl, fun e he => ?_, .cons (QbR x1 t1) rfl (.cons (QbR x2 t2) rfl .nil), ?_⟩
 ·have he : e = ⟨h1, .str x1 t1, .int i1 u1⟩ ∨ e = ⟨h2, .str x2 t2, .int i2 u2⟩ := by simpa using he
  rcases he with rfl | rfl
  ·exact ⟨Sum.inr x1, QbR x1 t1, e1⟩
  ·exact ⟨Sum.inr x2, QbR x2 t2, e2⟩
 ·show [(Sum.inr x1 : Key), Sum.inr x2].Nodup
  simp [ne]
end L2
namespace L2
open PySem PySem.Spec PyProof.Rows
section
variable {X : Cx} {pins : Pn} {σ : St} {H : Hp} {s : Shared}
theorem Inv.turnedL {fp : List Addr} {h' : Heap} {t' : Nat} (I : Inv X pins σ H s) (hf : ∀ b ∈ fp, Qhf X pins H b)
  (k : ∀ b ob, b ∉ fp → s.heap.get? b = some ob → h'.get? b = some ob) : Inv X pins σ H { s with heap := h', toks := t' } := by
 have nit : ∀ b u, H b = some u → b ∉ fp := fun b u e z => by rw [(hf b z).1] at e; cases e
 have nL : X.env.locals ∉ fp := fun z => (hf _ z).2.1 rfl
 refine I.step (g' := s.gens) (d' := s.drawn) (ch := fp) (fun b hb => ?_) (fun b o _ _ hc e _ => k b o hc e) (fun b o _ _ hc e _ => ⟨o.slots, k b o hc e⟩) (fun _ _ _ _ n => n)
  (fun b o hc e => ⟨o, k b o hc e⟩) (fun _ _ e => e) (fun _ _ _ e => e) (fun b ps e => ⟨#[], by rw [e]; simp⟩) (fun m hm => ?_) (fun b u e => ?_) I.bare
 ·obtain ⟨_, f1, _, f3, f4, f5⟩ := hf b hb
  exact ⟨f3, f1, f4, f5⟩
 ·obtain ⟨o, es, ep, ho, r⟩ := hm
  exact ⟨o, es, ep, k _ o nL ho, r⟩
 ·refine (I.hok b u e).stay (fun c v hc q => k c v ?_ q) (fun _ q => q) fun _ _ q => q
  rcases hc with z | z
  ·rw [z]; exact nit b u e
  ·exact nit _ _ z
theorem Inv.turnedLN {fp : List Addr} {h' : Heap} {t' : Nat} {o : HO} (I : Inv X pins σ H s) (hf : ∀ b ∈ fp, Qhf X pins H b)
  (k : ∀ b ob, b ∉ fp → s.heap.get? b = some ob → h'.get? b = some ob) (new : ObjOk X.prog X.w (upd H s.heap.objs.size o) h' s.heap.objs.size o) :
  Inv X pins σ (upd H s.heap.objs.size o) { s with heap := h', toks := t' } := by
 have nit : ∀ b u, H b = some u → b ∉ fp := fun b u e z => by rw [(hf b z).1] at e; cases e
 have nL : X.env.locals ∉ fp := fun z => (hf _ z).2.1 rfl
 have ne : ∀ b ob, s.heap.get? b = some ob → b ≠ s.heap.objs.size := fun b ob q => Nat.ne_of_lt (Heap.lt_size q)
 have hn : H s.heap.objs.size = none := I.hok.fresh (Nat.le_refl _)
 refine I.step (g' := s.gens) (d' := s.drawn) (ch := fp) (fun b hb => ?_) (fun b ob _ _ hc q _ => k b ob hc q) (fun b ob _ _ hc q _ => ⟨ob.slots, k b ob hc q⟩)
  (fun b ob _ q n => by rw [Qf (ne b ob q)]; exact n) (fun b ob hc q => ⟨ob, k b ob hc q⟩) (fun b xs q => by rw [Qf (Qd q hn)]; exact q)
  (fun b ob u q => by rw [Qf (Qd q hn)]; exact q) (fun b ps q => ⟨#[], by rw [Qf (Qd q hn), q]; simp⟩) (fun m hm => ?_) (fun b u q => ?_) I.bare
 ·obtain ⟨_, f1, _, f3, f4, f5⟩ := hf b hb
  exact ⟨f3, f1, f4, f5⟩
 ·obtain ⟨ob, es, ep, ho, r⟩ := hm
  exact ⟨ob, es, ep, k _ ob nL ho, r⟩
 ·by_cases hb : b = s.heap.objs.size
  ·subst hb; rw [Qb] at q; cases q; exact new
  ·rw [Qf hb] at q
   refine (I.hok b u q).stay (fun c v hc z => k _ v ?_ z) (fun c z => by rw [Qf (Qd z hn)]; exact z) fun c xs z => by rw [Qf (Qd z hn)]; exact z
   rcases hc with y | y
   ·subst y; exact nit _ _ q
   ·exact nit _ _ y
end
theorem QkB {X : Cx} {K' : Fg} {e : Expr} {f : Str} {pos : Pos} {ta : TE} (h : X.K = K') (he : PE X e ta) (hb : attributeBase e f X.env (eval e X.env) = eval e X.env) : PE X (.Attribute e f pos) (tFld K' ta f) := h ▸ Qw he hb
def Itz (a b : Addr) : It :=
  ⟨fun i H => ∃ xs ys x y, H a = some (.lst xs) ∧ H b = some (.lst ys) ∧ xs[i]? = some x ∧ ys[i]? = some y,
   fun i H v H' => ∃ p x y, H p = none ∧ v = .ref p ∧ H' = upd H p (.tup [x, y]) ∧ (∀ xs, H a = some (.lst xs) → xs[i]? = some x) ∧ ∀ ys, H b = some (.lst ys) → ys[i]? = some y,
   fun i H => ∃ xs ys, H a = some (.lst xs) ∧ H b = some (.lst ys) ∧ (xs.length ≤ i ∨ ys.length ≤ i)⟩
theorem Qja {P : Program} {w : World} {K : Fg} {elts : List Expr} {x1} {pos : Pos} (l1 l2 z TI TO i1 i2 : Addr) (D : ZipApart z TI TO i1 i2 l1 l2) :
  QkU P w K (.Tuple elts x1 pos) (Itz l1 l2) [z, TI, TO, i1, i2] z (fun i h => IsZip h z TI TO .none ∧ IsPair h TI (.ref i1) (.ref i2) ∧ (∃ a b, IsPair h TO a b) ∧ h.IsListIter i1 l1 i ∧ h.IsListIter i2 l2 i) where
 mem := by simp
 obj := fun i h st b hb => by
  obtain ⟨hz, hTI, ⟨a, b', hTO⟩, ⟨o1, ho1, hc1, hd1⟩, ⟨o2, ho2, hc2, hd2⟩⟩ := st
  simp only [List.mem_cons, List.not_mem_nil, or_false] at hb
  rcases hb with rfl | rfl | rfl | rfl | rfl
  ·exact ⟨_, hz, fun v z => by cases z⟩
  ·exact ⟨_, hTI, fun v z => by cases z⟩
  ·exact ⟨_, hTO, fun v z => by cases z⟩
  ·exact ⟨o1, ho1, fun v z => by rw [hd1] at z; cases z⟩
  ·exact ⟨o2, ho2, fun v z => by rw [hd2] at z; cases z⟩
 keep := fun i h h' ⟨hz, hTI, ⟨a, b, hTO⟩, h1, h2⟩ k => ⟨k z (by simp) _ hz, k TI (by simp) _ hTI, ⟨a, b, k TO (by simp) _ hTO⟩, h1.at fun o q => k i1 (by simp) o q, h2.at fun o q => k i2 (by simp) o q⟩
 item := by
  intro X hP hw hK hc i pins s σ H E I hf st hg
  subst hP hw hK
  obtain ⟨hz, hTI, ⟨a, b, hTO⟩, h1, h2⟩ := st
  obtain ⟨xs, ys, x, y, hq, hq2, hx, hy⟩ := hg
  obtain ⟨its, rv, p, hsz⟩ := I.list (SqL.of hq)
  obtain ⟨its2, rv2, p2, hsz2⟩ := I.list (SqL.of hq2)
  obtain ⟨u, hu, ru⟩ := rv.get hx
  obtain ⟨u2, hu2, ru2⟩ := rv2.get hy
  refine wpAny_pyNext_zip_item D hz hTI hTO h1 h2 p.isList p2.isList (x := u) (y := u2) (by simpa using hu) (by simpa using hu2) fun h3 hz3 hTO3 h13 h23 ht3 hs3 hk3 => ⟨_, rfl, ?_⟩
  refine wpAny_letOwnedTupleGo_zip hz3 fun h4 hz4 hs4 => ?_
  have hs4 : Heap.SameBut z h3 h4 := hs4
  have hzH : z < s.heap.objs.size := Heap.lt_size hz
  have hn : H s.heap.objs.size = none := I.hok.fresh (Nat.le_refl _)
  have ht4 : h4.get? s.heap.objs.size = some { cls := .type "tuple", data := .seq #[u, u2] } := (hs4.2 _ (Nat.ne_of_gt hzH)).trans ht3
  have kk : ∀ b ob, b ∉ [z, TI, TO, i1, i2] → s.heap.get? b = some ob → h4.get? b = some ob := fun b ob hb e => by
   simp only [List.mem_cons, List.not_mem_nil, or_false, not_or] at hb
   exact (hs4.2 b hb.1).trans (hk3 b ob hb.1 hb.2.2.1 hb.2.2.2.1 hb.2.2.2.2 e)
  have I2 : Inv X pins σ (upd H s.heap.objs.size (.tup [x, y])) { s with heap := h4, toks := s.toks } := by
   refine I.turnedLN hf kk ?_
   exact ⟨by rw [sizeLine_eq]; simp, [u, u2], .cons ru (.cons ru2 .nil), ⟨_, ht4, rfl, 0, rfl⟩⟩
  refine ⟨.ref s.heap.objs.size, _, I2, rfl, ⟨_, x, y, hn, rfl, rfl, fun zs hy' => ?_, fun zs hy' => ?_⟩, ⟨hz4, ?_, ⟨u, u2, ?_⟩, ?_, ?_⟩, fun b hb => ?_⟩
  ·rw [hq] at hy'; cases hy'; exact hx
  ·rw [hq2] at hy'; cases hy'; exact hy
  ·exact (hs4.2 _ D.TIz).trans (hk3 _ _ D.TIz D.TITO D.TIi1 D.TIi2 hTI)
  ·exact (hs4.2 _ D.TOz).trans hTO3
  ·exact h13.extBut hs4.extBut D.i1z
  ·exact h23.extBut hs4.extBut D.i2z
  ·rw [Qf]
   ·exact (hf b hb).1
   ·obtain ⟨o1, ho1, _⟩ := h1
    obtain ⟨o2, ho2, _⟩ := h2
    simp only [List.mem_cons, List.not_mem_nil, or_false] at hb
    rcases hb with rfl | rfl | rfl | rfl | rfl
    ·exact Nat.ne_of_lt hzH
    ·exact Nat.ne_of_lt (Heap.lt_size hTI)
    ·exact Nat.ne_of_lt (Heap.lt_size hTO)
    ·exact Nat.ne_of_lt (Heap.lt_size ho1)
    ·exact Nat.ne_of_lt (Heap.lt_size ho2)
 done := by
  intro X hP hw hK hc i pins s σ H E I hf st hg
  subst hP hw hK
  obtain ⟨hz, hTI, ⟨a, b, hTO⟩, h1, h2⟩ := st
  obtain ⟨xs, ys, hq, hq2, hx⟩ := hg
  obtain ⟨its, rv, p, hsz⟩ := I.list (SqL.of hq)
  obtain ⟨its2, rv2, p2, hsz2⟩ := I.list (SqL.of hq2)
  have hl := rv.length
  have hl2 := rv2.length
  refine wpAny_pyNext_zip_end (I.ok.hd hc) D hz hTI hTO h1 h2 p.isList p2.isList ?_ fun h' eb => ⟨rfl, I.turnedL (t' := s.toks) hf fun b ob hb e => ?_⟩
  ·rcases hx with hx | hx
   ·left; simp; omega
   ·right; simp; omega
  ·simp only [List.mem_cons, List.not_mem_nil, or_false, not_or] at hb
   exact eb b ob hb.1 hb.2.2.1 hb.2.2.2.1 hb.2.2.2.2 e
 self := fun _ _ _ _ _ ⟨hz, _⟩ h => wpAny_pyIter_zip hz h
section
variable {X : Cx}
def iZip (ta : TA) : TI := fun σ H R => ta σ H fun vs H1 => ∃ a b xs ys, vs = [.ref a, .ref b] ∧ H1 a = some (.lst xs) ∧ H1 b = some (.lst ys) ∧ R (Itz a b) H1
theorem pi_zip {elts : List Expr} {x1} {tpos : Pos} {l m : Expr} {ta : TA} {p pos : Pos} (hg : Gl X "zip") (hm : X.mg "zip" = none) (ha : PA X [l, m] ta)
  (hs : starEach [l, m] X.env = [(false, eval l X.env), (false, eval m X.env)] := by rfl) (hs2 : starEach [m] X.env = [(false, eval m X.env)] := by rfl) :
  PI X (.Tuple elts x1 tpos) (.Call (.Name "zip" p) [l, m] [] pos) (iZip ta) := by
 intro pins s σ H R I h
 refine Call_ (Qex I hg hm boot_zip (PyProof.Rows.callWith_type1 (thn (ha pos pins s σ H _ I h) fun us s1 ⟨vs, H1, I1, r1, q1⟩ => ?_) (by rw [hs, hs2]) (by rw [hs2]; rfl)))
 obtain ⟨a, b, xs, ys, e, hq, hq2, q⟩ := q1
 subst e
 obtain ⟨u, u2, rfl, ru, ru2⟩ := vals2 r1
 cases ru
 cases ru2
 obtain ⟨its, rv, p1, hsz⟩ := I1.list (SqL.of hq)
 obtain ⟨its2, rv2, p2, hsz2⟩ := I1.list (SqL.of hq2)
 obtain ⟨o1, ho1, _⟩ := p1.isList
 obtain ⟨o2, ho2, _⟩ := p2.isList
 refine call_zip_2 p1.isList p2.isList fun h' hz hTI hTO hi1 hi2 hsz hk => wpAny_pyIter_zip hz ?_
 have I2 : Inv X pins σ H1 { s1 with heap := h' } := I1.kept (t' := s1.toks) hk
 refine ⟨_, [s1.heap.objs.size + 4, s1.heap.objs.size + 2, s1.heap.objs.size + 3, s1.heap.objs.size, s1.heap.objs.size + 1], _, _, H1, rfl, I2,
  Qja a b _ _ _ _ _ (zipApart_new (Heap.lt_size ho1) (Heap.lt_size ho2)), ⟨hz, hTI, ⟨_, _, hTO⟩, hi1, hi2⟩, fun c hc => ?_, q⟩
 have hc : s1.heap.objs.size ≤ c := by
  simp only [List.mem_cons, List.not_mem_nil, or_false] at hc
  rcases hc with rfl | rfl | rfl | rfl | rfl <;> omega
 exact I1.fpOk hc (I1.hok.fresh hc)
end
theorem QkM {a b : Addr} {xs ys : List V} {g : TG} {tb : TS} {D : Qi7} {σ : St} {H : Hp} (Pv : Nat → St → Hp → Prop) (he : xs.length = ys.length) (h0 : Pv 0 σ H) (hl : ∀ i σ H, i ≤ xs.length → Pv i σ H → H a = some (.lst xs) ∧ H b = some (.lst ys))
  (hs : ∀ i x y σ H p, xs[i]? = some x → ys[i]? = some y → Pv i σ H → H p = none → g (.ref p) σ (upd H p (.tup [x, y])) fun σ2 H2 => tb { D with nx := Pv (i + 1), ct := Pv (i + 1), bk := D.nx } σ2 H2) (hd : ∀ σ H, Pv xs.length σ H → D.nx σ H) :
  ∃ W : Nat → Nat → St → Hp → Prop, (∃ m, W 0 m σ H) ∧ ∀ i m σ H, W i m σ H →
   ((Itz a b).stop i H ∧ D.nx σ H) ∨ ((Itz a b).go i H ∧ ∃ N : St → Hp → Prop, (∀ σ' H', N σ' H' → ∃ m', m' < m ∧ W (i + 1) m' σ' H') ∧ ∀ x H', (Itz a b).yld i H x H' → g x σ H' fun σ2 H2 => tb { D with nx := N, ct := N, bk := D.nx } σ2 H2) := by
 refine ⟨fun i m σ H => m = xs.length - i ∧ i ≤ xs.length ∧ Pv i σ H, ⟨xs.length, by simp, Nat.zero_le _, h0⟩, ?_⟩
 rintro i m σ H ⟨rfl, hi, p⟩
 obtain ⟨q, q2⟩ := hl i σ H hi p
 by_cases hlt : i < xs.length
 ·have hlt2 : i < ys.length := by omega
  refine .inr ⟨⟨xs, ys, xs[i], ys[i], q, q2, by simp [hlt], by simp [hlt2]⟩, Pv (i + 1), fun σ' H' p' => ⟨xs.length - (i + 1), by omega, rfl, hlt, p'⟩, fun v H' y => ?_⟩
  obtain ⟨pp, x, y, hp, e1, e2, hx, hy⟩ := y
  subst e1 e2
  exact hs i x y σ H pp (hx xs q) (hy ys q2) p hp
 ·have e : i = xs.length := by omega
  subst e
  exact .inl ⟨⟨xs, ys, q, q2, .inl (Nat.le_refl _)⟩, hd σ H p⟩
end L2
namespace LW
open PySem L2
section
variable {κ : Type} [DecidableEq κ]
theorem QcT {kvs : List (κ × V)} (nd : (kvs.map (·.1)).Nodup) {i : Nat} {k : κ} {v : V} (h : kvs[i]? = some (k, v)) : QaP kvs k = some v := by
 induction kvs generalizing i with
 | nil => simp at h
 | cons p r ih =>
  have nd : (p.1 :: r.map (·.1)).Nodup := nd
  obtain ⟨n1, n2⟩ := List.nodup_cons.mp nd
  cases i with
  | zero =>
   have h : p = (k, v) := by simpa using h
   subst h
   exact QbW rfl
  | succ i =>
   have h : r[i]? = some (k, v) := by simpa using h
   have hk : k ∈ r.map (·.1) := List.mem_map.mpr ⟨(k, v), List.mem_of_getElem? h, rfl⟩
   rw [QbX (fun e => n1 (by rw [e]; exact hk))]
   exact ih n2 h
theorem Qcw {kvs : List (κ × V)} {k : κ} (h : ¬ k ∈ kvs.map (·.1)) : QaP kvs k = none := by
 cases e : QaP kvs k with
 | none => rfl
 | some v => exact absurd (QhC e) h
theorem Qkw {kvs : List (κ × V)} (nd : (kvs.map (·.1)).Nodup) {i : Nat} {k : κ} {v v' : V} (h : kvs[i]? = some (k, v)) : QbK kvs k v' = kvs.set i (k, v') := by
 have e1 := QcT nd h
 have e2 : QbK kvs k v' = kvs.map fun kv => if kv.1 = k then (kv.1, v') else kv := by
  unfold QbK
  rw [QbY, e1]
  rfl
 rw [e2]
 clear e1 e2
 induction kvs generalizing i with
 | nil => simp at h
 | cons p r ih =>
  have nd : (p.1 :: r.map (·.1)).Nodup := nd
  obtain ⟨n1, n2⟩ := List.nodup_cons.mp nd
  cases i with
  | zero =>
   have h : p = (k, v) := by simpa using h
   subst h
   have hr : ∀ q ∈ r, (fun kv : κ × V => if kv.1 = k then (kv.1, v') else kv) q = q := fun q hq => by
    have : ¬ q.1 = k := fun e => n1 (by show k ∈ _; rw [← e]; exact List.mem_map.mpr ⟨q, hq, rfl⟩)
    show (if q.1 = k then (q.1, v') else q) = q
    rw [if_neg this]
   rw [List.map_cons, List.set_cons_zero, List.map_congr_left hr, List.map_id']
   show (if k = k then (k, v') else (k, v)) :: r = _
   rw [if_pos rfl]
  | succ i =>
   have h : r[i]? = some (k, v) := by simpa using h
   have hk : k ∈ r.map (·.1) := List.mem_map.mpr ⟨(k, v), List.mem_of_getElem? h, rfl⟩
   have hp : ¬ p.1 = k := fun e => n1 (by rw [e]; exact hk)
   rw [List.map_cons, List.set_cons_succ, ih n2 h]
   show (if p.1 = k then (p.1, v') else p) :: _ = _
   rw [if_neg hp]
theorem Qhb {kvs : List (κ × V)} (nd : (kvs.map (·.1)).Nodup) {i : Nat} {k : κ} {v : V} (h : kvs[i]? = some (k, v)) : Qc5 kvs k = kvs.eraseIdx i := by
 induction kvs generalizing i with
 | nil => simp at h
 | cons p r ih =>
  have nd : (p.1 :: r.map (·.1)).Nodup := nd
  obtain ⟨n1, n2⟩ := List.nodup_cons.mp nd
  cases i with
  | zero =>
   have h : p = (k, v) := by simpa using h
   subst h
   rw [QiJ rfl, Qha n1]
   rfl
  | succ i =>
   have h : r[i]? = some (k, v) := by simpa using h
   have hk : k ∈ r.map (·.1) := List.mem_map.mpr ⟨(k, v), List.mem_of_getElem? h, rfl⟩
   rw [Qgf (fun e => n1 (by rw [e]; exact hk)), ih n2 h]
   rfl
end
section
variable {α β : Type} {F G : α → β → Prop}
theorem Q6 : ∀ {xs : List α} {ys : List β} {i : Nat} {x : α}, Paired F xs ys → xs[i]? = some x → ∃ y, ys[i]? = some y ∧ F x y
 | _, _, _, _, .nil, h => by simp at h
 | _, _, 0, _, .cons r _, h => by simp at h; subst h; exact ⟨_, rfl, r⟩
 | _, _, i + 1, x, .cons _ t, h => by
  obtain ⟨y, h1, h2⟩ := Q6 (i := i) (x := x) t (by simpa using h)
  exact ⟨y, by simpa using h1, h2⟩
theorem pr_getR : ∀ {xs : List α} {ys : List β} {i : Nat} {y : β}, Paired F xs ys → ys[i]? = some y → ∃ x, xs[i]? = some x ∧ F x y
 | _, _, _, _, .nil, h => by simp at h
 | _, _, 0, _, .cons r _, h => by simp at h; subst h; exact ⟨_, rfl, r⟩
 | _, _, i + 1, x, .cons _ t, h => by
  obtain ⟨y, h1, h2⟩ := pr_getR (i := i) (y := x) t (by simpa using h)
  exact ⟨y, by simpa using h1, h2⟩
theorem Qh7 {x : α} {y : β} (r : F x y) : ∀ {xs : List α} {ys : List β} (i : Nat), Paired F xs ys → Paired F (xs.set i x) (ys.set i y)
 | _, _, _, .nil => .nil
 | _, _, 0, .cons _ t => .cons r t
 | _, _, i + 1, .cons q t => .cons q (Qh7 r i t)
theorem Qci : ∀ {xs xs' : List α} {ys ys' : List β}, Paired F xs ys → Paired F xs' ys' → Paired F (xs ++ xs') (ys ++ ys')
 | _, _, _, _, .nil, s => s
 | _, _, _, _, .cons r t, s => .cons r (Qci t s)
theorem QE (f : ∀ a b, a ∈ (xs : List α) → b ∈ (ys : List β) → F a b → G a b) (h : Paired F xs ys) : Paired G xs ys := by
 induction h with
 | nil => exact .nil
 | cons r t ih => exact .cons (f _ _ List.mem_cons_self List.mem_cons_self r) (ih fun a b ha hb => f a b (List.mem_cons_of_mem _ ha) (List.mem_cons_of_mem _ hb))
theorem Qfk : ∀ {xs : List α} {ys : List β} (i : Nat), Paired F xs ys → Paired F (xs.eraseIdx i) (ys.eraseIdx i)
 | _, _, _, .nil => .nil
 | _, _, 0, .cons _ t => t
 | _, _, i + 1, .cons r t => .cons r (Qfk i t)
theorem Qh8 {x : α} {y : β} (r : F x y) : ∀ n : Nat, Paired F (List.replicate n x) (List.replicate n y)
 | 0 => .nil
 | n + 1 => .cons r (Qh8 r n)
theorem pr_len {xs : List α} {ys : List β} (h : Paired F xs ys) : xs.length = ys.length := Paired.length h
end
inductive T where
 | non | num (i : Int) | box (n : Int)
 deriving DecidableEq
def isT (H : Hp) : T → V → Prop
 | .non, v => v = .non
 | .num i, v => v = .int i
 | .box n, v => ∃ a, v = .ref a ∧ H a = some (.tup [.str "box", .int n])
def Tups (H H' : Hp) : Prop := ∀ b xs, H b = some (.tup xs) → H' b = some (.tup xs)
theorem Tups.refl (H : Hp) : Tups H H := fun _ _ h => h
theorem Tups.trans {H H1 H2 : Hp} (a : Tups H H1) (b : Tups H1 H2) : Tups H H2 := fun c xs h => b c xs (a c xs h)
theorem Tups.of_same {H H' : Hp} (s : Same H H') : Tups H H' := fun b _ h => s b _ h
theorem Tups.upd {H : Hp} {a : Addr} {o o' : HO} (h : H a = some o') (n : ∀ xs, o' ≠ .tup xs) : Tups H (upd H a o) := fun b xs q => by
 rw [Qf]
 ·exact q
 ·rintro rfl
  rw [h] at q
  cases q
  exact n xs rfl
theorem Tups.new {H : Hp} {a : Addr} {o : HO} (h : H a = none) : Tups H (L2.upd H a o) := fun b xs q => by rw [Qf (Qd q h)]; exact q
theorem isT.keep {H H' : Hp} {t : T} {v : V} (k : Tups H H') (h : isT H t v) : isT H' t v := by
 cases t with
 | non => exact h
 | num i => exact h
 | box n => obtain ⟨a, e, q⟩ := h; exact ⟨a, e, k _ _ q⟩
abbrev Ths (H : Hp) : List T → List V → Prop := Paired (isT H)
theorem Ths.keep {H H' : Hp} {ts : List T} {vs : List V} (k : Tups H H') (h : Ths H ts vs) : Ths H' ts vs := QE (fun _ _ _ _ z => z.keep k) h
def ThL (H : Hp) (ts : List T) (a : Addr) : Prop := ∃ vs, H a = some (.lst vs) ∧ Ths H ts vs
def Qhe (H : Hp) (ns : List Int) (a : Addr) : Prop := H a = some (.lst (ns.map V.int))
theorem ThL.keep {H H' : Hp} {ts : List T} {a : Addr} (k : Tups H H') (e : H' a = H a) (h : ThL H ts a) : ThL H' ts a := let ⟨vs, h1, h2⟩ := h; ⟨vs, e.trans h1, h2.keep k⟩
structure Box where
 name : Int
 kind : Str
 row : List T
structure HS where
 room : Int
 slots : List T
 last : Int
 boxes : List Box
 queues : List (List Int)
 told : List (List Int)
structure HA where
 dx : Addr
 sl : Addr
 kd : Addr
 fd : Addr
 fl : List Addr
 qs : Addr
 ql : List Addr
 td : Addr
 tl : List Addr
def HA.lists (A : HA) : List Addr := A.sl :: A.qs :: A.td :: (A.fl ++ (A.ql ++ A.tl))
def HA.foot (A : HA) (p : Addr) : List Addr := p :: A.kd :: A.fd :: A.lists
def Qa4 (A : HA) (S : HS) : List (Str × V) :=
 [("room", .int S.room), ("slots", .ref A.sl), ("last_name", .int S.last), ("kinds", .ref A.kd), ("fields", .ref A.fd), ("queues", .ref A.qs), ("told", .ref A.td)]
def Qr (bs : List Box) : List (Key × V) := bs.map fun b => ((Sum.inl b.name : Key), V.str b.kind)
def Qm (bs : List Box) (fl : List Addr) : List (Key × V) := (bs.zip fl).map fun q => ((Sum.inl q.1.name : Key), V.ref q.2)
structure HouseAt (C : Addr) (H : Hp) (p : Addr) (A : HA) (S : HS) : Prop where
 ob : H p = some (.ins C A.dx (Qa4 A S))
 sl : ThL H S.slots A.sl
 kd : H A.kd = some (.dK (Qr S.boxes))
 fd : H A.fd = some (.dK (Qm S.boxes A.fl))
 fl : Paired (fun b a => ThL H b.row a) S.boxes A.fl
 qs : H A.qs = some (.lst (A.ql.map V.ref))
 ql : Paired (Qhe H) S.queues A.ql
 td : H A.td = some (.lst (A.tl.map V.ref))
 tl : Paired (Qhe H) S.told A.tl
 nd : A.lists.Nodup
 kf : A.kd ≠ A.fd
 asc : (S.boxes.map (·.name)).Pairwise (· < ·)
 top : ∀ b ∈ S.boxes, b.name ≤ S.last
theorem HouseAt.nm {C : Addr} {H : Hp} {p : Addr} {A : HA} {S : HS} (h : HouseAt C H p A S) : (S.boxes.map (·.name)).Nodup := h.asc.imp fun z => Int.ne_of_lt z
def Frame (F : List Addr) (H H' : Hp) : Prop := ∀ b o, H b = some o → b ∉ F → H' b = some o
theorem Frame.of_same {F : List Addr} {H H' : Hp} (s : Same H H') : Frame F H H' := fun b o h _ => s b o h
theorem Frame.refl (F : List Addr) (H : Hp) : Frame F H H := fun _ _ h _ => h
def Grown (F F' : List Addr) (H : Hp) : Prop := ∀ b ∈ F', b ∈ F ∨ H b = none
theorem Grown.refl (F : List Addr) (H : Hp) : Grown F F H := fun _ h => .inl h
theorem Grown.out {F F' : List Addr} {H : Hp} (g : Grown F F' H) {b : Addr} {o : HO} (h : H b = some o) (n : b ∉ F) : b ∉ F' := fun z => by
 rcases g b z with q | q
 ·exact n q
 ·rw [h] at q; cases q
section
variable {C : Addr} {H H' : Hp} {p : Addr} {A : HA} {S : HS}
theorem HouseAt.keep (h : HouseAt C H p A S) (k : ∀ b ∈ A.foot p, H' b = H b) (t : Tups H H') : HouseAt C H' p A S where
 ob := (k p (by simp [HA.foot])).trans h.ob
 sl := h.sl.keep t (k _ (by simp [HA.foot, HA.lists]))
 kd := (k _ (by simp [HA.foot])).trans h.kd
 fd := (k _ (by simp [HA.foot])).trans h.fd
 fl := QE (fun b a _ ha z => z.keep t (k _ (by simp [HA.foot, HA.lists, ha]))) h.fl
 qs := (k _ (by simp [HA.foot, HA.lists])).trans h.qs
 ql := QE (fun b a _ ha z => (k _ (by simp [HA.foot, HA.lists, ha])).trans z) h.ql
 td := (k _ (by simp [HA.foot, HA.lists])).trans h.td
 tl := QE (fun b a _ ha z => (k _ (by simp [HA.foot, HA.lists, ha])).trans z) h.tl
 nd := h.nd
 kf := h.kf
 asc := h.asc
 top := h.top
theorem HouseAt.there (h : HouseAt C H p A S) : ∀ b ∈ A.foot p, ∃ o, H b = some o := fun b hb => by
 have hb : b = p ∨ b = A.kd ∨ b = A.fd ∨ b = A.sl ∨ b = A.qs ∨ b = A.td ∨ b ∈ A.fl ∨ b ∈ A.ql ∨ b ∈ A.tl := by simpa [HA.foot, HA.lists] using hb
 rcases hb with e | e | e | e | e | e | e | e | e
 ·exact ⟨_, e ▸ h.ob⟩
 ·exact ⟨_, e ▸ h.kd⟩
 ·exact ⟨_, e ▸ h.fd⟩
 ·obtain ⟨vs, q, _⟩ := h.sl; exact ⟨_, e ▸ q⟩
 ·exact ⟨_, e ▸ h.qs⟩
 ·exact ⟨_, e ▸ h.td⟩
 ·obtain ⟨i, hi⟩ := List.getElem?_of_mem e
  obtain ⟨x, _, vs, q, _⟩ := pr_getR h.fl hi
  exact ⟨_, q⟩
 ·obtain ⟨i, hi⟩ := List.getElem?_of_mem e
  obtain ⟨x, _, q⟩ := pr_getR h.ql hi
  exact ⟨_, q⟩
 ·obtain ⟨i, hi⟩ := List.getElem?_of_mem e
  obtain ⟨x, _, q⟩ := pr_getR h.tl hi
  exact ⟨_, q⟩
theorem HouseAt.same (h : HouseAt C H p A S) (s : Same H H') : HouseAt C H' p A S := h.keep (fun b hb => by
 obtain ⟨o, q⟩ := h.there b hb
 rw [q]; exact s _ _ q) (Tups.of_same s)
theorem HouseAt.new (h : HouseAt C H p A S) {a : Addr} {o : HO} (n : H a = none) : HouseAt C (upd H a o) p A S := h.same fun b u q => by rw [Qf (Qd q n)]; exact q
theorem HouseAt.out (h : HouseAt C H p A S) {a : Addr} (n : H a = none) : a ∉ A.foot p := fun z => by
 obtain ⟨o, q⟩ := h.there a z
 rw [n] at q; cases q
theorem HouseAt.isL (h : HouseAt C H p A S) : ∀ b ∈ A.lists, ∃ vs, H b = some (.lst vs) := fun b hb => by
 have hb : b = A.sl ∨ b = A.qs ∨ b = A.td ∨ b ∈ A.fl ∨ b ∈ A.ql ∨ b ∈ A.tl := by simpa [HA.lists] using hb
 rcases hb with e | e | e | e | e | e
 ·obtain ⟨vs, q, _⟩ := h.sl; exact ⟨_, e ▸ q⟩
 ·exact ⟨_, e ▸ h.qs⟩
 ·exact ⟨_, e ▸ h.td⟩
 ·obtain ⟨i, hi⟩ := List.getElem?_of_mem e
  obtain ⟨x, _, vs, q, _⟩ := pr_getR h.fl hi
  exact ⟨_, q⟩
 ·obtain ⟨i, hi⟩ := List.getElem?_of_mem e
  obtain ⟨x, _, q⟩ := pr_getR h.ql hi
  exact ⟨_, q⟩
 ·obtain ⟨i, hi⟩ := List.getElem?_of_mem e
  obtain ⟨x, _, q⟩ := pr_getR h.tl hi
  exact ⟨_, q⟩
end
end LW
namespace LW
open PySem L2
structure Imm (H H' : Hp) : Prop where
 t : Tups H H'
 f : ∀ b o u, H b = some (.frz o u) → H' b = some (.frz o u)
theorem Imm.refl (H : Hp) : Imm H H := ⟨Tups.refl H, fun _ _ _ h => h⟩
theorem Imm.same {H H' : Hp} (s : Same H H') : Imm H H' := ⟨Tups.of_same s, fun b _ _ h => s b _ h⟩
theorem Same.new {H : Hp} {a : Addr} {o : HO} (h : H a = none) : Same H (upd H a o) := fun b u q => by rw [Qf (Qd q h)]; exact q
theorem Imm.new {H : Hp} {a : Addr} {o : HO} (h : H a = none) : Imm H (upd H a o) := Imm.same (Same.new h)
def Mutb : HO → Prop
 | .tup _ => False
 | .frz _ _ => False
 | _ => True
theorem Imm.upd {H : Hp} {a : Addr} {o o' : HO} (h : H a = some o') (m : Mutb o') : Imm H (L2.upd H a o) := by
 refine ⟨fun b xs q => ?_, fun b x u q => ?_⟩
 ·rw [Qf]
  ·exact q
  ·rintro rfl; rw [h] at q; cases q; exact m
 ·rw [Qf]
  ·exact q
  ·rintro rfl; rw [h] at q; cases q; exact m
structure Rt where
 on : Hp → List Addr → Prop
 keep : ∀ {H H' : Hp} {F : List Addr}, on H F → (∀ b ∈ F, H' b = H b) → Imm H H' → on H' F
 there : ∀ {H : Hp} {F : List Addr}, on H F → ∀ b ∈ F, ∃ o, H b = some o
def Own (H : Hp) (W : List Rt) : Prop := ∃ Fs : List (List Addr), Paired (fun r F => r.on H F) W Fs ∧ Fs.flatten.Nodup
theorem QjE {α : Type} {Fs : List (List α)} {i : Nat} {F : List α} (h : Fs[i]? = some F) {b : α} (hb : b ∈ F) : b ∈ Fs.flatten := List.mem_flatten.mpr ⟨F, List.mem_of_getElem? h, hb⟩
def QaF {α : Type} (Fs : List (List α)) (i : Nat) : List α := (Fs.eraseIdx i).flatten
theorem Qfu {α : Type} : ∀ {Fs : List (List α)} {i : Nat} {F : List α}, Fs[i]? = some F → Fs.flatten.Nodup → F.Nodup ∧ (QaF Fs i).Nodup ∧ (∀ b ∈ F, b ∉ QaF Fs i)
 | [], _, _, h, _ => by simp at h
 | F0 :: Fs, 0, F, h, nd => by
  have h : F0 = F := by simpa using h
  subst h
  rw [List.flatten_cons] at nd
  obtain ⟨a, b, c⟩ := List.nodup_append.mp nd
  exact ⟨a, b, fun x hx hy => c x hx x hy rfl⟩
 | F0 :: Fs, i + 1, F, h, nd => by
  have h : Fs[i]? = some F := by simpa using h
  rw [List.flatten_cons] at nd
  obtain ⟨a, b, c⟩ := List.nodup_append.mp nd
  obtain ⟨x1, x2, x3⟩ := Qfu h b
  have sub : ∀ y ∈ QaF Fs i, y ∈ Fs.flatten := fun y hy => by
   obtain ⟨G, hG, hy⟩ := List.mem_flatten.mp hy
   exact List.mem_flatten.mpr ⟨G, List.mem_of_mem_eraseIdx hG, hy⟩
  refine ⟨x1, ?_, fun y hy hz => ?_⟩
  ·show (F0 :: Fs.eraseIdx i).flatten.Nodup
   rw [List.flatten_cons]
   exact List.nodup_append.mpr ⟨a, x2, fun p hp q hq => c p hp q (sub q hq)⟩
  ·have hz : y ∈ F0 ++ QaF Fs i := hz
   rcases List.mem_append.mp hz with z | z
   ·exact c y z y (QjE h hy) rfl
   ·exact x3 y hy z
theorem QbP {α : Type} : ∀ {Fs : List (List α)} {i : Nat} {F' : List α} {x : α}, x ∈ (Fs.set i F').flatten → x ∈ F' ∨ x ∈ QaF Fs i
 | [], _, _, _, h => by simp at h
 | G :: Gs, 0, F', x, h => by
  have h : x ∈ F' ++ Gs.flatten := h
  rcases List.mem_append.mp h with z | z
  ·exact .inl z
  ·exact .inr z
 | G :: Gs, i + 1, F', x, h => by
  have h : x ∈ G ++ (Gs.set i F').flatten := h
  rcases List.mem_append.mp h with z | z
  ·exact .inr (show x ∈ G ++ QaF Gs i from List.mem_append_left _ z)
  ·rcases QbP z with q | q
   ·exact .inl q
   ·exact .inr (show x ∈ G ++ QaF Gs i from List.mem_append_right _ q)
theorem QgG {α : Type} : ∀ {Fs : List (List α)} {i : Nat} {F F' : List α}, Fs[i]? = some F → F'.Nodup → (QaF Fs i).Nodup → (∀ b ∈ F', b ∉ QaF Fs i) → (Fs.set i F').flatten.Nodup
 | [], _, _, _, h, _, _, _ => by simp at h
 | F0 :: Fs, 0, F, F', h, a, b, c => by
  show (F' :: Fs).flatten.Nodup
  rw [List.flatten_cons]
  exact List.nodup_append.mpr ⟨a, b, fun x hx y hy e => c x hx (e ▸ hy)⟩
 | F0 :: Fs, i + 1, F, F', h, a, b, c => by
  have h : Fs[i]? = some F := by simpa using h
  have b : (F0 ++ QaF Fs i).Nodup := b
  obtain ⟨b1, b2, b3⟩ := List.nodup_append.mp b
  have c : ∀ x ∈ F', x ∉ F0 ++ QaF Fs i := c
  show (F0 :: Fs.set i F').flatten.Nodup
  rw [List.flatten_cons]
  refine List.nodup_append.mpr ⟨b1, QgG h a b2 (fun x hx z => c x hx (List.mem_append_right _ z)), fun x hx y hy e => ?_⟩
  subst e
  rcases QbP hy with z | z
  ·exact c x z (List.mem_append_left _ hx)
  ·exact b3 x hx x z rfl
theorem QcW {α β : Type} {F G : α → β → Prop} {x : α} {y : β} : ∀ {xs : List α} {ys : List β} {i : Nat}, Paired F xs ys → G x y → (∀ (j : Nat) a b, j ≠ i → xs[j]? = some a → ys[j]? = some b → F a b → G a b) → Paired G (xs.set i x) (ys.set i y)
 | _, _, _, .nil, _, _ => .nil
 | _, _, 0, .cons _ t, g, f => .cons g (by
   have f' : ∀ (j : Nat) a b, _ → _ → F a b → G a b := fun j a b => f (j + 1) a b (by omega)
   clear f
   induction t with
   | nil => exact .nil
   | cons r s ih => exact .cons (f' 0 _ _ rfl rfl r) (ih fun j a b h1 h2 => f' (j + 1) a b (by simpa using h1) (by simpa using h2)))
 | _, _, i + 1, .cons r t, g, f => .cons (f 0 _ _ (by omega) rfl rfl r) (QcW t g fun j a b hj h1 h2 => f (j + 1) a b (by omega) (by simpa using h1) (by simpa using h2))
section
variable {H H' : Hp} {W : List Rt} {i : Nat} {r r' : Rt} {l : Addr} {o : HO}
theorem Own.get (w : Own H W) (h : W[i]? = some r) : ∃ F, r.on H F := by
 obtain ⟨Fs, p, _⟩ := w
 obtain ⟨F, _, q⟩ := Q6 p h
 exact ⟨F, q⟩
theorem Own.chg (w : Own H W) (h : W[i]? = some r) : ∃ (F G : List Addr), r.on H F ∧ F.Nodup ∧ (∀ b ∈ F, b ∉ G) ∧ (∀ b ∈ G, ∃ o, H b = some o) ∧
  ∀ (H' : Hp) (r' : Rt) (F' : List Addr), r'.on H' F' → F'.Nodup → (∀ b ∈ F', b ∈ F ∨ H b = none) → (∀ b ∈ G, H' b = H b) → Imm H H' → Own H' (W.set i r') := by
 obtain ⟨Fs, p, nd⟩ := w
 obtain ⟨F, hF, q⟩ := Q6 p h
 obtain ⟨n1, n2, n3⟩ := Qfu hF nd
 have th : ∀ b ∈ QaF Fs i, ∃ o, H b = some o := fun b hb => by
  obtain ⟨G, hG, hb⟩ := List.mem_flatten.mp hb
  obtain ⟨j, hj⟩ := List.getElem?_of_mem (List.mem_of_mem_eraseIdx hG)
  obtain ⟨r2, _, q2⟩ := pr_getR p hj
  exact r2.there q2 b hb
 refine ⟨F, QaF Fs i, q, n1, n3, th, fun H' r' F' q' nd' sub kp im => ⟨Fs.set i F', QcW p q' fun j a b hj h1 h2 z => a.keep z (fun c hc => kp c ?_) im, QgG hF nd' n2 fun b hb hz => ?_⟩⟩
 ·refine List.mem_flatten.mpr ⟨b, ?_, hc⟩
  exact List.mem_iff_getElem?.mpr (by
   by_cases e : j < i
   ·exact ⟨j, by rw [List.getElem?_eraseIdx_of_lt e]; exact h2⟩
   ·have e : i < j := by omega
    obtain ⟨k, rfl⟩ : ∃ k, j = k + 1 := ⟨j - 1, by omega⟩
    exact ⟨k, by rw [List.getElem?_eraseIdx_of_ge (by omega)]; exact h2⟩)
 ·rcases sub b hb with z | z
  ·exact n3 b z hz
  ·obtain ⟨u, e⟩ := th b hz
   rw [z] at e; cases e
theorem Own.same (w : Own H W) (s : Same H H') : Own H' W := by
 obtain ⟨Fs, p, nd⟩ := w
 exact ⟨Fs, QE (fun r F _ _ z => r.keep z (fun b hb => by
  obtain ⟨o, e⟩ := r.there z b hb
  rw [e]; exact s _ _ e) (Imm.same s)) p, nd⟩
theorem Own.out (w : Own H W) (h : H l = none) : ∀ Fs, Paired (fun r F => r.on H F) W Fs → l ∉ Fs.flatten := fun Fs p z => by
 obtain ⟨F, hF, hb⟩ := List.mem_flatten.mp z
 obtain ⟨j, hj⟩ := List.getElem?_of_mem hF
 obtain ⟨r, _, q⟩ := pr_getR p hj
 obtain ⟨o, e⟩ := r.there q l hb
 rw [h] at e; cases e
theorem Own.new (w : Own H W) (h : H l = none) (n : r.on (upd H l o) [l]) : Own (upd H l o) (r :: W) := by
 have w2 := w
 obtain ⟨Fs, p, nd⟩ := w
 have ho := w2.out h Fs p
 refine ⟨[l] :: Fs, .cons n (QE (fun r F _ hF z => r.keep z (fun b hb => Qf fun e => ?_) (Imm.new h)) p), ?_⟩
 ·subst e
  exact ho (List.mem_flatten.mpr ⟨F, hF, hb⟩)
 ·show (l :: Fs.flatten).Nodup
  exact List.nodup_cons.mpr ⟨ho, nd⟩
theorem Own.imm (w : Own H W) (n : r.on H []) : Own H (r :: W) := by
 obtain ⟨Fs, p, nd⟩ := w
 exact ⟨[] :: Fs, .cons n p, by simpa using nd⟩
theorem Own.tail (w : Own H (r :: W)) : Own H W := by
 obtain ⟨Fs, p, nd⟩ := w
 cases p with
 | cons q t =>
  rw [List.flatten_cons] at nd
  exact ⟨_, t, (List.nodup_append.mp nd).2.1⟩
theorem Own.nil (H : Hp) : Own H [] := ⟨[], .nil, by simp⟩
theorem Qkx {α β : Type} {F : α → β → Prop} {xs xs' : List α} (h : xs.Perm xs') : ∀ {ys : List β}, Paired F xs ys → ∃ ys', Paired F xs' ys' ∧ ys.Perm ys' := by
 induction h with
 | nil => intro ys p; exact ⟨ys, p, .refl _⟩
 | cons x _ ih =>
  intro ys p
  cases p with
  | cons r t =>
   obtain ⟨ys', p', q⟩ := ih t
   exact ⟨_, .cons r p', q.cons _⟩
 | swap x y l =>
  intro ys p
  cases p with
  | cons r t =>
   cases t with
   | cons r2 t2 => exact ⟨_, .cons r2 (.cons r t2), .swap _ _ _⟩
 | trans _ _ ih1 ih2 =>
  intro ys p
  obtain ⟨y1, p1, q1⟩ := ih1 p
  obtain ⟨y2, p2, q2⟩ := ih2 p1
  exact ⟨y2, p2, q1.trans q2⟩
theorem Own.perm {W' : List Rt} (w : Own H W) (h : W.Perm W') : Own H W' := by
 obtain ⟨Fs, p, nd⟩ := w
 obtain ⟨Fs', p', q⟩ := Qkx h p
 exact ⟨Fs', p', (List.Perm.flatten q).nodup_iff.mp nd⟩
end
def Qam (C p : Addr) (S : HS) : Rt where
 on H F := ∃ A, HouseAt C H p A S ∧ F = A.foot p
 keep := by
  rintro H H' F ⟨A, h, rfl⟩ k im
  exact ⟨A, h.keep k im.t, rfl⟩
 there := by
  rintro H F ⟨A, h, rfl⟩ b hb
  exact h.there b hb
def Qhl (a : Addr) (vs : List V) : Rt where
 on H F := H a = some (.lst vs) ∧ F = [a]
 keep := by
  rintro H H' F ⟨h, rfl⟩ k im
  exact ⟨(k a (by simp)).trans h, rfl⟩
 there := by
  rintro H F ⟨h, rfl⟩ b hb
  obtain rfl : b = a := by simpa using hb
  exact ⟨_, h⟩
def QjZ (a : Addr) (kvs : List (Key × V)) : Rt where
 on H F := H a = some (.dK kvs) ∧ F = [a]
 keep := by
  rintro H H' F ⟨h, rfl⟩ k im
  exact ⟨(k a (by simp)).trans h, rfl⟩
 there := by
  rintro H F ⟨h, rfl⟩ b hb
  obtain rfl : b = a := by simpa using hb
  exact ⟨_, h⟩
def QfX (a : Addr) (xss : List (List Int)) : Rt where
 on H F := ∃ al, H a = some (.lst (al.map V.ref)) ∧ Paired (Qhe H) xss al ∧ F = a :: al
 keep := by
  rintro H H' F ⟨al, h, p, rfl⟩ k im
  exact ⟨al, (k a (by simp)).trans h, QE (fun x b _ hb z => (k b (by simp [hb])).trans z) p, rfl⟩
 there := by
  rintro H F ⟨al, h, p, rfl⟩ b hb
  rcases List.mem_cons.mp hb with rfl | hb
  ·exact ⟨_, h⟩
  ·obtain ⟨j, hj⟩ := List.getElem?_of_mem hb
   obtain ⟨x, _, z⟩ := pr_getR p hj
   exact ⟨_, z⟩
def rRec (ak ar : Addr) (bs : List Box) : Rt where
 on H F := ∃ fl, H ak = some (.dK (Qr bs)) ∧ H ar = some (.dK (Qm bs fl)) ∧ Paired (fun b a => ThL H b.row a) bs fl ∧ F = ak :: ar :: fl
 keep := by
  rintro H H' F ⟨fl, h1, h2, p, rfl⟩ k im
  exact ⟨fl, (k ak (by simp)).trans h1, (k ar (by simp)).trans h2, QE (fun x b _ hb z => z.keep im.t (k b (by simp [hb]))) p, rfl⟩
 there := by
  rintro H F ⟨fl, h1, h2, p, rfl⟩ b hb
  have hb : b = ak ∨ b = ar ∨ b ∈ fl := by simpa using hb
  rcases hb with rfl | rfl | hb
  ·exact ⟨_, h1⟩
  ·exact ⟨_, h2⟩
  ·obtain ⟨j, hj⟩ := List.getElem?_of_mem hb
   obtain ⟨x, _, vs, z, _⟩ := pr_getR p hj
   exact ⟨_, z⟩
def rTup (a : Addr) (vs : List V) : Rt where
 on H F := H a = some (.tup vs) ∧ F = []
 keep := by
  rintro H H' F ⟨h, rfl⟩ k im
  exact ⟨im.t _ _ h, rfl⟩
 there := by
  rintro H F ⟨h, rfl⟩ b hb
  simp at hb
end LW
variable {P : PySem.Program} {w : PySem.World} {K : Fg} {mg : PySem.Str → Option PySem.Value} {base : PySem.Heap} {n : Nat} {fd : PySem.FuncData}
theorem zl {k : Nat} (h : Nat.ble k 99 = true := by rfl) : k ≤ PySem.sizeLine := Nat.le_trans (Nat.le_of_ble_eq_true h) (by decide)
namespace LW
open PySem L2
theorem QkT {c A B : Prop} [Decidable c] (hc : ¬ c) (h : B) : if decide c = true then A else B := by rw [decide_eq_false hc]; exact Qbz h
theorem QbS {b : Bool} {A B : Prop} (e : b = false) (h : B) : if b = true then A else B := by rw [e]; exact Qbz h
theorem iteA {b : Bool} {A B : Prop} (e : b = true) (h : A) : if b = true then A else B := by rw [e]; exact Qcd h
theorem QbQ {k : Str} {v : V} {r : List (Str × V)} : List.lookup k ((k, v) :: r) = some v := by simp [List.lookup_cons]
theorem Qu {k k' : Str} {v : V} {r : List (Str × V)} (h : (k == k') = false) : List.lookup k ((k', v) :: r) = List.lookup k r := by simp [List.lookup_cons, h]
section
variable {A : HA} {S : HS}
theorem QkJ : (Qa4 A S).lookup ("room" : Str) = some (V.int S.room) := QbQ
theorem Qb5 : (Qa4 A S).lookup ("slots" : Str) = some (V.ref A.sl) := (Qu (by decide +kernel)).trans QbQ
theorem QkK : (Qa4 A S).lookup ("last_name" : Str) = some (V.int S.last) := (Qu (by decide +kernel)).trans ((Qu (by decide +kernel)).trans QbQ)
theorem Qb6 : (Qa4 A S).lookup ("kinds" : Str) = some (V.ref A.kd) := (Qu (by decide +kernel)).trans ((Qu (by decide +kernel)).trans ((Qu (by decide +kernel)).trans QbQ))
theorem Qa3 : (Qa4 A S).lookup ("fields" : Str) = some (V.ref A.fd) := (Qu (by decide +kernel)).trans ((Qu (by decide +kernel)).trans ((Qu (by decide +kernel)).trans ((Qu (by decide +kernel)).trans QbQ)))
theorem Qa2 : (Qa4 A S).lookup ("queues" : Str) = some (V.ref A.qs) := (Qu (by decide +kernel)).trans ((Qu (by decide +kernel)).trans ((Qu (by decide +kernel)).trans ((Qu (by decide +kernel)).trans ((Qu (by decide +kernel)).trans QbQ))))
theorem Qc2 : (Qa4 A S).lookup ("told" : Str) = some (V.ref A.td) := (Qu (by decide +kernel)).trans ((Qu (by decide +kernel)).trans ((Qu (by decide +kernel)).trans ((Qu (by decide +kernel)).trans ((Qu (by decide +kernel)).trans ((Qu (by decide +kernel)).trans QbQ)))))
def Qj8 (m : Str) : Bool := (["room", "slots", "last_name", "kinds", "fields", "queues", "told"] : List Str).all fun x => !(m == x)
theorem Ql {m : Str} (h : Qj8 m = true := by decide +kernel) : (Qa4 A S).lookup m = none := by
 simp only [Qj8, List.all_cons, List.all_nil, Bool.and_true, Bool.and_eq_true, Bool.not_eq_true'] at h
 obtain ⟨h1, h2, h3, h4, h5, h6, h7⟩ := h
 exact (Qu h1).trans ((Qu h2).trans ((Qu h3).trans ((Qu h4).trans ((Qu h5).trans ((Qu h6).trans ((Qu h7).trans rfl))))))
end
structure HTxt (K : Fg) (mg : Str → Option Value) (C : Addr) : Prop where
 cl : Cls K C
 n_room : NoAttr K C "room"
 n_slots : NoAttr K C "slots"
 n_last : NoAttr K C "last_name"
 n_kinds : NoAttr K C "kinds"
 n_fields : NoAttr K C "fields"
 n_queues : NoAttr K C "queues"
 n_told : NoAttr K C "told"
 g_house : mg "House" = some (.ref C)
 g_len : mg "len" = none
 g_sorted : mg "sorted" = none
 g_range : mg "range" = none
 g_list : mg "list" = none
 g_isi : mg "isinstance" = none
 g_guards : ∃ t, mg "GUARDS" = some (.int 4 t)
def MethOk (P : Program) (w : World) (K : Fg) (mg : Str → Option Value) (base : Heap) (C : Addr) (k : Nat) (m : Str) (ps : List Str) (sp : Sp) (dss : List (List Value)) : Prop :=
 ∃ f fd, Meth K C m f ∧ FnOk P w K mg base CX0 k f fd ps sp ∧ ∀ ds ∈ dss, Binds K fd ps ds
def DefOk (P : Program) (w : World) (K : Fg) (mg : Str → Option Value) (base : Heap) (k : Nat) (x : Str) (ps : List Str) (sp : Sp) (dss : List (List Value)) : Prop :=
 ∃ f fd, mg x = some (.ref f) ∧ PySem.W.keepIn K (.ref f) = true ∧ FnOk P w K mg base CX0 k f fd ps sp ∧ ∀ ds ∈ dss, Binds K fd ps ds
section
variable {C : Addr}
def Qav (C : Addr) : Sp := fun vs H Q _ => ∃ p A S i, vs = [.ref p, .int i] ∧ HouseAt C H p A S ∧ 0 ≤ i ∧ i < S.slots.length ∧ Q .non H
end
section
variable {C : Addr} {H : Hp} {p : Addr} {A : HA} {S : HS}
theorem Qaa (bs : List Box) : (Qr bs).map (·.1) = (bs.map (·.name)).map fun n => (Sum.inl n : Key) := by
 simp [Qr, List.map_map, Function.comp_def]
theorem Qag {bs : List Box} {fl : List Addr} (h : bs.length = fl.length) : (Qm bs fl).map (·.1) = (bs.map (·.name)).map fun n => (Sum.inl n : Key) := by
 unfold Qm
 rw [List.map_map, List.map_map]
 have : ((fun x : Key × V => x.1) ∘ fun q : Box × Addr => ((Sum.inl q.1.name : Key), V.ref q.2)) = (fun b : Box => (Sum.inl b.name : Key)) ∘ Prod.fst := rfl
 rw [this, ← List.map_map, List.map_fst_zip (by omega)]
 rfl
theorem QcZ {l : List Int} (h : l.Nodup) : (l.map fun n => (Sum.inl n : Key)).Nodup := by
 induction l with
 | nil => exact List.nodup_nil
 | cons a r ih =>
  obtain ⟨h1, h2⟩ := List.nodup_cons.mp h
  rw [List.map_cons]
  refine List.nodup_cons.mpr ⟨fun m => h1 ?_, ih h2⟩
  obtain ⟨b, hb, e⟩ := List.mem_map.mp m
  rw [← Sum.inl.inj e]; exact hb
theorem HouseAt.ndK (h : HouseAt C H p A S) : ((Qr S.boxes).map (·.1)).Nodup := by rw [Qaa]; exact QcZ h.nm
theorem HouseAt.ndF (h : HouseAt C H p A S) : ((Qm S.boxes A.fl).map (·.1)).Nodup := by rw [Qag (pr_len h.fl)]; exact QcZ h.nm
theorem HouseAt.kindAt (h : HouseAt C H p A S) {i : Nat} {b : Box} (e : S.boxes[i]? = some b) : QaP (Qr S.boxes) (Sum.inl b.name) = some (.str b.kind) := by
 refine QcT h.ndK (i := i) ?_
 simp [Qr, e]
theorem HouseAt.rowAt (h : HouseAt C H p A S) {i : Nat} {b : Box} (e : S.boxes[i]? = some b) : ∃ a ws, A.fl[i]? = some a ∧ H a = some (.lst ws) ∧ Ths H b.row ws ∧ QaP (Qm S.boxes A.fl) (Sum.inl b.name) = some (.ref a) := by
 obtain ⟨a, ha, ws, hw, ht⟩ := Q6 h.fl e
 refine ⟨a, ws, ha, hw, ht, QcT h.ndF (i := i) ?_⟩
 unfold Qm
 rw [List.getElem?_map, List.getElem?_zip_eq_some.mpr (show S.boxes[i]? = some (b, a).1 ∧ A.fl[i]? = some (b, a).2 from ⟨e, ha⟩)]
 rfl
theorem HouseAt.noName (h : HouseAt C H p A S) {n : Int} (e : ¬ n ∈ S.boxes.map (·.name)) : QaP (Qr S.boxes) (Sum.inl n) = none := by
 refine Qcw ?_
 rw [Qaa]
 intro m
 obtain ⟨b, hb, q⟩ := List.mem_map.mp m
 rw [Sum.inl.inj q] at hb
 exact e hb
end
section
variable {C : Addr}
def ZP (C : Addr) : Sp := fun vs H Q _ => ∃ p i, vs = [.ref p, .int i] ∧ 0 ≤ i ∧ i < 4 ∧ Q .non H
def Zu (C : Addr) : Sp := fun vs H Q _ => ∃ p A S n, vs = [.ref p, .int n] ∧ HouseAt C H p A S ∧ n ∈ S.boxes.map (·.name) ∧ Q .non H
def QbB (C : Addr) : Sp := fun vs H Q _ => ∃ (p : Addr) (A : HA) (S : HS) (i : Nat) (b : Box) (at_ : Int), vs = [.ref p, .int b.name, .int at_] ∧ HouseAt C H p A S ∧ S.boxes[i]? = some b ∧ 0 ≤ at_ ∧ at_ < b.row.length ∧ Q .non H
def QdW (C : Addr) : Sp := fun vs H Q _ => ∃ (p : Addr) (A : HA) (S : HS) (n : Int), vs = [.ref p, .int n] ∧ HouseAt C H p A S ∧ Q (.bl (decide ((S.boxes.length : Int) + n ≤ S.room))) H
def QdV (C : Addr) : Sp := fun vs H Q _ => ∃ (p : Addr) (A : HA) (S : HS) (n : Int) (v : V), vs = [.ref p, .int n, v] ∧ HouseAt C H p A S ∧ (S.boxes.length : Int) + n ≤ S.room ∧ Q .non H
def names (S : HS) : List Int := S.boxes.map (·.name)
theorem QdG : ∀ {a b : List Int}, a.Perm b → a.Pairwise (· ≤ ·) → b.Pairwise (· < ·) → a = b
 | [], b, h, _, _ => (List.nil_perm.mp h).symm
 | x :: a, [], h, _, _ => by simpa using h.length_eq
 | x :: a, y :: b, h, h1, h2 => by
  have e : x = y := by
   obtain ⟨p1, _⟩ := List.pairwise_cons.mp h1
   obtain ⟨p2, _⟩ := List.pairwise_cons.mp h2
   have m1 : x ∈ y :: b := h.mem_iff.mp List.mem_cons_self
   have m2 : y ∈ x :: a := h.mem_iff.mpr List.mem_cons_self
   rcases List.mem_cons.mp m1 with q | q
   ·exact q
   ·have l1 := p2 x q
    rcases List.mem_cons.mp m2 with r | r
    ·exact r.symm
    ·have l2 := p1 y r
     omega
  subst e
  rw [QdG ((List.perm_cons x).mp h) (List.pairwise_cons.mp h1).2 (List.pairwise_cons.mp h2).2]
def QdU (C : Addr) : Sp := fun vs H Q _ => ∃ p A S, vs = [.ref p] ∧ HouseAt C H p A S ∧ S.boxes.length < 64 ∧ ∀ l, H l = none → Q (.ref l) (upd H l (.lst ((names S).map V.int)))
def QfR (C : Addr) : Sp := fun vs H Q _ => ∃ (p : Addr) (A : HA) (S : HS) (i : Nat) (b : Box), vs = [.ref p, .int b.name] ∧ HouseAt C H p A S ∧ S.boxes[i]? = some b ∧ Q (.str b.kind) H
theorem QdJ {S : HS} {i : Nat} {b : Box} (h : S.boxes[i]? = some b) : b.name ∈ S.boxes.map (·.name) := List.mem_map.mpr ⟨b, List.mem_of_getElem? h, rfl⟩
def QhR (C : Addr) : Sp := fun vs H Q _ => ∃ (p : Addr) (A : HA) (S : HS) (i : Nat) (b : Box), vs = [.ref p, .int b.name] ∧ HouseAt C H p A S ∧ S.boxes[i]? = some b ∧ Q (.int b.row.length) H
def QcU (C : Addr) : Sp := fun vs H Q _ => ∃ (p : Addr) (A : HA) (S : HS) (i : Nat) (b : Box) (j : Nat) (t : T), vs = [.ref p, .int b.name, .int j] ∧ HouseAt C H p A S ∧ S.boxes[i]? = some b ∧ b.row[j]? = some t ∧ ∀ v, isT H t v → Q v H
def QjV (C : Addr) : Sp := fun vs H Q _ => ∃ (p : Addr) (A : HA) (S : HS) (j : Nat) (t : T), vs = [.ref p, .int j] ∧ HouseAt C H p A S ∧ S.slots[j]? = some t ∧ ∀ v, isT H t v → Q v H
def QdT (C : Addr) : Sp := fun vs H Q _ => ∃ (p : Addr) (A : HA) (S : HS) (g : Nat) (ns : List Int), vs = [.ref p, .int g] ∧ HouseAt C H p A S ∧ g < 4 ∧ S.queues[g]? = some ns ∧ ∀ l, H l = none → Q (.ref l) (upd H l (.lst (ns.map V.int)))
end
def ZQ (kind : Str) (size : Int) : Int := if kind = "weak" then 1 else if kind = "pair" then 2 else size
def HS.built (S : HS) (kind : Str) (n : Nat) : HS := { S with last := S.last + 1, boxes := S.boxes ++ [(⟨S.last + 1, kind, List.replicate n .non⟩ : Box)] }
theorem QiC (A : HA) (S : HS) (z : Int) : QcC "last_name" (.int z) (Qa4 A S) = Qa4 A { S with last := z } := by
 have n1 : ¬ (("room" : Str) = "last_name") := by decide +kernel
 have n2 : ¬ (("slots" : Str) = "last_name") := by decide +kernel
 simp only [Qa4, QcC, if_neg n1, if_neg n2, if_pos]
theorem Qil {l : Addr} {a b r : List Addr} (h : (a ++ b ++ r).Nodup) (hl : l ∉ a ++ b ++ r) : (a ++ (b ++ [l]) ++ r).Nodup := by
 have e : a ++ (b ++ [l]) ++ r = (a ++ b) ++ l :: r := by simp
 rw [e, List.perm_middle.nodup_iff]
 exact List.nodup_cons.mpr ⟨hl, h⟩
theorem HouseAt.built {C : Addr} {H H' : Hp} {p : Addr} {A : HA} {S : HS} {l : Addr} {kind : Str} {n : Nat} (h : HouseAt C H p A S) (h1 : H' p = some (.ins C A.dx (Qa4 A { S with last := S.last + 1 })))
  (h2 : H' A.kd = some (.dK (Qr S.boxes ++ [((Sum.inl (S.last + 1) : Key), V.str kind)]))) (h3 : H' A.fd = some (.dK (Qm S.boxes A.fl ++ [((Sum.inl (S.last + 1) : Key), V.ref l)]))) (h4 : H' l = some (.lst (List.replicate n .non)))
  (hl : l ∉ A.lists) (hk : ∀ b ∈ A.lists, H' b = H b) (ht : Tups H H') : HouseAt C H' p { A with fl := A.fl ++ [l] } (S.built kind n) where
 ob := h1
 sl := h.sl.keep ht (hk _ (by simp [HA.lists]))
 kd := by rw [h2]; simp [Qr, HS.built]
 fd := by
  rw [h3]
  show _ = some (HO.dK (((S.boxes ++ [(⟨S.last + 1, kind, List.replicate n .non⟩ : Box)]).zip (A.fl ++ [l])).map _))
  rw [List.zip_append (pr_len h.fl)]
  simp [Qm]
 fl := Qci (QE (fun b a _ ha z => z.keep ht (hk _ (by simp [HA.lists, ha]))) h.fl) (.cons ⟨_, h4, Qh8 (show isT H' .non .non from rfl) n⟩ .nil)
 qs := (hk _ (by simp [HA.lists])).trans h.qs
 ql := QE (fun b a _ ha z => (hk _ (by simp [HA.lists, ha])).trans z) h.ql
 td := (hk _ (by simp [HA.lists])).trans h.td
 tl := QE (fun b a _ ha z => (hk _ (by simp [HA.lists, ha])).trans z) h.tl
 nd := by
  have e : HA.lists A = [A.sl, A.qs, A.td] ++ A.fl ++ (A.ql ++ A.tl) := by simp [HA.lists]
  have e2 : HA.lists { A with fl := A.fl ++ [l] } = [A.sl, A.qs, A.td] ++ (A.fl ++ [l]) ++ (A.ql ++ A.tl) := by simp [HA.lists]
  have nd := h.nd
  rw [e] at nd hl
  rw [e2]
  exact Qil nd hl
 kf := h.kf
 asc := by
  show ((S.boxes ++ [(⟨S.last + 1, kind, List.replicate n .non⟩ : Box)]).map (·.name)).Pairwise (· < ·)
  rw [List.map_append, List.pairwise_append]
  refine ⟨h.asc, List.pairwise_singleton _ _, fun x hx y hy => ?_⟩
  obtain ⟨b, hb, rfl⟩ := List.mem_map.mp hx
  have hy : y = S.last + 1 := by simpa using hy
  have := h.top b hb
  omega
 top := fun b hb => by
  have hb : b ∈ S.boxes ++ [(⟨S.last + 1, kind, List.replicate n .non⟩ : Box)] := hb
  show b.name ≤ S.last + 1
  rcases List.mem_append.mp hb with q | q
  ·have := h.top b q; omega
  ·have q : b = ⟨S.last + 1, kind, List.replicate n .non⟩ := by simpa using q
   subst q
   exact Int.le_refl _
def QjF : List (Key × V) := [(Sum.inr "weak", .int 1), (Sum.inr "pair", .int 2)]
theorem QiG (kind : Str) (size : Int) : (QaP QjF (Sum.inr kind)).getD (.int size) = V.int (ZQ kind size) := by
 unfold QjF ZQ
 by_cases h1 : kind = "weak"
 ·subst h1
  rw [QbW rfl, if_pos rfl]
  rfl
 ·rw [QbX (fun e => h1 (Sum.inr.inj e).symm), if_neg h1]
  by_cases h2 : kind = "pair"
  ·subst h2
   rw [QbW rfl, if_pos rfl]
   rfl
  ·rw [QbX (fun e => h2 (Sum.inr.inj e).symm), if_neg h2]
   rfl
theorem Qg9 (n : Nat) : (List.replicate n [V.non]).flatten = List.replicate n V.non := by
 induction n with
 | zero => rfl
 | succ n ih => rw [List.replicate_succ, List.flatten_cons, ih, List.replicate_succ]; rfl
section
variable {C : Addr}
def Out (C : Addr) (H : Hp) (p : Addr) (A : HA) (S' : HS) (Q : V → Hp → Prop) (v : V) : Prop := ∀ A' H', HouseAt C H' p A' S' → Frame (A.foot p) H H' → Tups H H' → Grown (A.foot p) (A'.foot p) H → Q v H'
def QbZ : Sp := fun vs H Q _ => ∃ n, vs = [.int n] ∧ ∀ a, H a = none → Q (.ref a) (upd H a (.tup [.str "box", .int n]))
theorem HouseAt.setSlot {H : Hp} {p : Addr} {A : HA} {S : HS} {ws : List V} {j : Nat} {t : T} {v : V} (h : HouseAt C H p A S) (hw : H A.sl = some (.lst ws)) (ht : Ths H S.slots ws) (tv : isT H t v) :
  HouseAt C (upd H A.sl (.lst (ws.set j v))) p A { S with slots := S.slots.set j t } := by
 have tu : Tups H (upd H A.sl (.lst (ws.set j v))) := Tups.upd hw (by intro xs z; cases z)
 have nd : A.sl ∉ A.qs :: A.td :: (A.fl ++ (A.ql ++ A.tl)) := (List.nodup_cons.mp h.nd).1
 have ne : ∀ b ∈ A.qs :: A.td :: (A.fl ++ (A.ql ++ A.tl)), b ≠ A.sl := fun b hb e => nd (e ▸ hb)
 refine ⟨?_, ⟨_, Qb, Ths.keep tu (Qh7 tv j ht)⟩, ?_, ?_, QE (fun b a _ ha z => z.keep tu (Qf (ne _ (by simp [ha])))) h.fl, ?_, QE (fun b a _ ha z => (Qf (ne _ (by simp [ha]))).trans z) h.ql, ?_,
  QE (fun b a _ ha z => (Qf (ne _ (by simp [ha]))).trans z) h.tl, h.nd, h.kf, h.asc, h.top⟩
 ·rw [Qf (QB h.ob hw (by intro z; cases z))]; exact h.ob
 ·rw [Qf (QB h.kd hw (by intro z; cases z))]; exact h.kd
 ·rw [Qf (QB h.fd hw (by intro z; cases z))]; exact h.fd
 ·rw [Qf (ne _ (by simp))]; exact h.qs
 ·rw [Qf (ne _ (by simp))]; exact h.td
def HS.made (S : HS) (kind : Str) (n slot : Nat) : HS := { S.built kind n with slots := S.slots.set slot (.box (S.last + 1)) }
def QhU (C : Addr) : Sp := fun vs H Q _ => ∃ (p : Addr) (A : HA) (S : HS) (kind : Str) (size : Int) (slot : Nat), vs = [.ref p, .str kind, .int size, .int slot] ∧ HouseAt C H p A S ∧ 0 ≤ ZQ kind size ∧ ZQ kind size ≤ 1000 ∧ S.boxes.length ≤ 1000 ∧ (S.boxes.length : Int) < S.room ∧
 slot < S.slots.length ∧ Out C H p A (S.made kind (ZQ kind size).toNat slot) Q (.int (S.last + 1))
def QgX (C : Addr) : Sp := fun vs H Q _ => ∃ (p : Addr) (A : HA) (S : HS) (kind : Str) (n slot : Nat) (ad at_ al : Addr), vs = [.ref p, .ref ad, .int slot] ∧ HouseAt C H p A S ∧ H ad = some (.lst [.ref at_]) ∧ H at_ = some (.tup [.str kind, .ref al]) ∧
 H al = some (.lst (List.replicate n .non)) ∧ n ≤ 1000 ∧ S.boxes.length ≤ 1000 ∧ (S.boxes.length : Int) < S.room ∧ slot < S.slots.length ∧ Out C H p A (S.made kind n slot) Q (.int (S.last + 1))
theorem QfB {n j : Nat} (h : j < n) : ixN n (j : Int) = some j := by
 unfold ixN
 rw [if_pos (by omega), if_pos (by omega)]
 simp
end
def QeR (l : List Stmt) (i : Nat) : Stmt := l.getD i (.Pass ⟨0, 0, 0, 0⟩)
def Qbq : Stmt → Expr
 | .Assign _ v _ => v
 | _ => .Constant .none 0 ⟨0, 0, 0, 0⟩
def QjY : Stmt → Expr
 | .Return (some v) _ => v
 | _ => .Constant .none 0 ⟨0, 0, 0, 0⟩
def QiW (i : Nat) : Expr → Expr
 | .Call _ args _ _ => args.getD i (.Constant .none 0 ⟨0, 0, 0, 0⟩)
 | _ => .Constant .none 0 ⟨0, 0, 0, 0⟩
def QeA : Stmt → List Stmt
 | .For _ _ b _ _ => b
 | _ => []
def QP : Expr → Scope
 | .ListComp _ _ sc _ => sc
 | _ => { kind := .function, names := [], isGenerator := false, isCoroutine := false }
theorem comp4 {σ : St} {H : Hp} {Q : VK} (k : ∀ (as : List Addr) (H' : Hp), as.length = 4 → as.Nodup → (∀ a ∈ as, H a = none ∧ H' a = some (.lst [])) → Same H H' → ∀ p, H' p = none → Q (.ref p) (upd H' p (.lst (as.map V.ref)))) :
  Qkk (iRng1 (Qgr (tC (.int 4)) QhH)) [] Qfc (Qki QhH) σ H Q := by
 refine ⟨4, rfl, by decide, by decide, Qa6 (lo := 0) (n := 4) (fun i ys H' => ∃ as : List Addr, ys = as.map V.ref ∧ as.length = i ∧ as.Nodup ∧ (∀ a ∈ as, H a = none ∧ H' a = some (.lst [])) ∧ Same H H')
  ⟨[], rfl, rfl, List.nodup_nil, by simp, Same.refl _⟩ ?_ (by decide) ?_ ?_⟩
 ·rintro i ys H' ⟨as, rfl, hl, _⟩
  rw [List.length_map]; omega
 ·rintro i ys H' hi ⟨as, rfl, hl, nd, ha, hs⟩
  dsimp only [Qfc]
  refine Qcd ⟨by decide, fun p hp => ⟨as ++ [p], by simp, by simp [hl], ?_, fun a ha' => ?_, fun b o q => ?_⟩⟩
  ·refine QcY nd fun m => ?_
   rw [(ha p m).2] at hp; cases hp
  ·rcases List.mem_append.mp ha' with q | q
   ·exact ⟨(ha a q).1, by rw [Qf (Qd (ha a q).2 hp)]; exact (ha a q).2⟩
   ·have q : a = p := by simpa using q
    subst q
    exact ⟨hs.free hp, Qb⟩
  ·rw [Qf (Qd (hs b o q) hp)]
   exact hs b o q
 ·rintro ys H' ⟨as, rfl, hl, nd, ha, hs⟩ p hp
  exact k as H' hl nd ha hs p hp
def HS.empty (room : Int) (n : Nat) : HS := ⟨room, List.replicate n .non, 0, [], [[], [], [], []], [[], [], [], []]⟩
theorem Qiy (room : Int) (sl kd fd qs td : Addr) : QcC "told" (V.ref td) (QcC "queues" (V.ref qs) (QcC "fields" (V.ref fd) (QcC "kinds" (V.ref kd) (QcC "last_name" (V.int 0) (QcC "slots" (V.ref sl) (QcC "room" (V.int room) [])))))) =
  ([("room", .int room), ("slots", .ref sl), ("last_name", .int 0), ("kinds", .ref kd), ("fields", .ref fd), ("queues", .ref qs), ("told", .ref td)] : List (Str × V)) := by kernel_rfl
theorem Qig {α β : Type} {F : α → β → Prop} {x : α} {l : List β} (hl : l.length = 4) (h : ∀ y ∈ l, F x y) : Paired F [x, x, x, x] l := by
 match l, hl, h with
 | [a, b, c, d], _, h => exact .cons (h a (by simp)) (.cons (h b (by simp)) (.cons (h c (by simp)) (.cons (h d (by simp)) .nil)))
theorem Qbk {p b : Addr} {H : Hp} {o u : HO} (h : H b = some u) (n : b ≠ p) : upd H p o b = some u := by rw [Qf n]; exact h
theorem Zt {a b : Addr} {H : Hp} {o u : HO} (h : H b = some u) (n : H a = none) : upd H a o b = some u := by rw [Qf (Qd h n)]; exact h
theorem Qaj {a b : Addr} {H : Hp} {o : HO} (h : upd H a o b = none) : H b = none := by
 have : b ≠ a := fun e => by subst e; rw [Qb] at h; cases h
 rw [Qf this] at h
 exact h
section
variable {C : Addr}
def QjU (C : Addr) : Sp := fun vs H Q _ => ∃ (p dx : Addr) (room n : Int), vs = [.ref p, .int room, .int n] ∧ H p = some (.ins C dx []) ∧ 0 ≤ n ∧ n ≤ 1000 ∧
 ∀ A' H', HouseAt C H' p A' (HS.empty room n.toNat) → Frame [p] H H' → Tups H H' → Grown [p] (A'.foot p) H → Q .non H'
end
def Scr (K : Fg) (H : Hp) (a : Addr) (ns : List Int) : Prop :=
 (∃ o, H a = some (.frz o (.lst (ns.map V.int)))) ∨
  ∃ (o : Obj) (its : Array Value) (n : Nat), K.lookup a = some o ∧ o.cls = .type "list" ∧ o.dict = none ∧ o.data = .seq its n ∧ its.size ≤ sizeLine ∧ Vals (ns.map V.int) its.toList
theorem Scr.sq {K : Fg} {H : Hp} {a : Addr} {ns : List Int} (h : Scr K H a ns) : SqL K H a (ns.map V.int) := by
 rcases h with ⟨o, h⟩ | h
 ·exact .inl (.inr ⟨o, h⟩)
 ·exact .inr h
theorem Scr.of {K : Fg} {H : Hp} {a : Addr} {ns : List Int} (hO : Only H) (h : SqL K H a (ns.map V.int)) : Scr K H a ns := by
 rcases h with (h | ⟨o, h⟩) | h
 ·rcases hO a with z | ⟨o, xs, z⟩
  ·rw [h] at z; cases z
  ·rw [h] at z; cases z
 ·exact .inl ⟨o, h⟩
 ·exact .inr h
def Frz (H H' : Hp) : Prop := ∀ b o u, H b = some (.frz o u) → H' b = some (.frz o u)
theorem Frz.of_same {H H' : Hp} (s : Same H H') : Frz H H' := fun b _ _ h => s b _ h
theorem Scr.keep {K : Fg} {H H' : Hp} {a : Addr} {ns : List Int} (f : Frz H H') (h : Scr K H a ns) : Scr K H' a ns := by
 rcases h with ⟨o, h⟩ | h
 ·exact .inl ⟨o, f _ _ _ h⟩
 ·exact .inr h
theorem HouseAt.frz {C : Addr} {H H' : Hp} {p : Addr} {A : HA} {S : HS} (h : HouseAt C H p A S) (f : Frame (A.foot p) H H') : Frz H H' := fun b o u q => f b _ q fun m => by
 have m : b = p ∨ b = A.kd ∨ b = A.fd ∨ b ∈ A.lists := by simpa [HA.foot] using m
 rcases m with e | e | e | e
 ·subst e; rw [h.ob] at q; cases q
 ·subst e; rw [h.kd] at q; cases q
 ·subst e; rw [h.fd] at q; cases q
 ·obtain ⟨vs, z⟩ := h.isL b e
  rw [z] at q; cases q
structure LTxt (K : Fg) (mg : Str → Option Value) : Prop where
 g_len : mg "len" = none
 g_range : mg "range" = none
 g_list : mg "list" = none
 g_isi : mg "isinstance" = none
 g_int : mg "int" = none
 g_bool : mg "bool" = none
 g_tuple : mg "tuple" = none
 g_str : mg "str" = none
 g_sorted : mg "sorted" = none
 g_enumerate : mg "enumerate" = none
 s_ib : PySem.W.subIn K (.type "int") (.type "bool") = some false
 s_it : PySem.W.subIn K (.type "int") (.type "tuple") = some false
theorem QdH (K : Fg) (n : String) : PySem.W.kitOne K (.type n) (.type n) = some true := by
 unfold PySem.W.kitOne
 rw [if_pos (by simp)]
theorem Qiq {K : Fg} {t : Value} {n : String} {b : Bool} (h : (t == Value.type n) = false) (m : PySem.W.kitMeta n = true) (s : PySem.W.subIn K t (.type n) = some b) : PySem.W.kitOne K t (.type n) = some b := by
 unfold PySem.W.kitOne PySem.W.kitCls
 rw [if_neg (by rw [h]; exact Bool.false_ne_true)]
 show (if PySem.W.kitMeta n = true then PySem.W.subIn K t (.type n) else none) = some b
 rw [if_pos m]
 exact s
def QcX : PySem.Expr := .Constant .none 0 ⟨0, 0, 0, 0⟩
def ifTest : Stmt → PySem.Expr | .If t _ _ _ => t | _ => QcX
def cmpL : PySem.Expr → PySem.Expr | .Compare v _ _ _ => v | _ => QcX
def cmpR (i : Nat) : PySem.Expr → PySem.Expr | .Compare _ _ vs _ => vs.getD i QcX | _ => QcX
def boolAt (i : Nat) : PySem.Expr → PySem.Expr | .BoolOp _ vs _ => vs.getD i QcX | _ => QcX
structure TX (K : Fg) (mg : Str → Option Value) (C : Addr) : Prop extends HTxt K mg C, LTxt K mg
def MakeOk (P : Program) (w : World) (K : Fg) (mg : Str → Option Value) (base : Heap) (C : Addr) (k : Nat) (ps : List Str) (sp : Sp) (dss : List (List Value)) : Prop :=
 ∃ f fd j, j + 1 ≤ k ∧ Mk K C f ∧ FnOk P w K mg base CX0 j f fd ps sp ∧ ∀ ds ∈ dss, Binds K fd ps ds
section
variable {C : Addr} {j k : Nat} {m x : Str} {ps : List Str} {sp : Sp} {dss : List (List Value)}
theorem MethOk.mono (h : MethOk P w K mg base C j m ps sp dss) (e : j ≤ k) : MethOk P w K mg base C k m ps sp dss := let ⟨f, fd, a, b, c⟩ := h; ⟨f, fd, a, b.mono e, c⟩
theorem DefOk.mono (h : DefOk P w K mg base j x ps sp dss) (e : j ≤ k) : DefOk P w K mg base k x ps sp dss := let ⟨f, fd, a, a', b, c⟩ := h; ⟨f, fd, a, a', b.mono e, c⟩
theorem MakeOk.mono (h : MakeOk P w K mg base C j ps sp dss) (e : j ≤ k) : MakeOk P w K mg base C k ps sp dss := let ⟨f, fd, i, hi, a, b, c⟩ := h; ⟨f, fd, i, Nat.le_trans hi e, a, b, c⟩
end
section
variable {C p : Addr} {H H' : Hp} {A A' : HA} {S S' : HS} {W : List Rt} {i : Nat}
theorem HA.footNd (h : HouseAt C H p A S) : (A.foot p).Nodup := by
 have n1 : ∀ b ∈ A.lists, b ≠ p := fun b hb e => by
  obtain ⟨vs, z⟩ := h.isL b hb
  rw [e, h.ob] at z; cases z
 have n2 : ∀ b ∈ A.lists, b ≠ A.kd := fun b hb e => by
  obtain ⟨vs, z⟩ := h.isL b hb
  rw [e, h.kd] at z; cases z
 have n3 : ∀ b ∈ A.lists, b ≠ A.fd := fun b hb e => by
  obtain ⟨vs, z⟩ := h.isL b hb
  rw [e, h.fd] at z; cases z
 have e1 : p ≠ A.kd := QB h.ob h.kd (by intro z; cases z)
 have e2 : p ≠ A.fd := QB h.ob h.fd (by intro z; cases z)
 show (p :: A.kd :: A.fd :: A.lists).Nodup
 refine List.nodup_cons.mpr ⟨fun m => ?_, List.nodup_cons.mpr ⟨fun m => ?_, List.nodup_cons.mpr ⟨fun m => n3 _ m rfl, h.nd⟩⟩⟩
 ·rcases List.mem_cons.mp m with q | m
  ·exact e1 q
  ·rcases List.mem_cons.mp m with q | m
   ·exact e2 q
   ·exact n1 _ m rfl
 ·rcases List.mem_cons.mp m with q | m
  ·exact h.kf q
  ·exact n2 _ m rfl
theorem Own.house (w : Own H W) (h : W[i]? = some (Qam C p S)) : ∃ A, HouseAt C H p A S := by
 obtain ⟨F, A, q, _⟩ := w.get h
 exact ⟨A, q⟩
theorem Own.houseOut (w : Own H W) (h : W[i]? = some (Qam C p S)) : ∃ A, HouseAt C H p A S ∧
  ∀ A' H' S', HouseAt C H' p A' S' → Frame (A.foot p) H H' → Tups H H' → Grown (A.foot p) (A'.foot p) H → Own H' (W.set i (Qam C p S')) := by
 obtain ⟨F, G, ⟨A, hh, rfl⟩, nd, dj, th, fin⟩ := w.chg h
 refine ⟨A, hh, fun A' H' S' hh' fr tu gr => fin H' _ (A'.foot p) ⟨A', hh', rfl⟩ (HA.footNd hh') gr (fun b hb => ?_) ⟨tu, hh.frz fr⟩⟩
 obtain ⟨o, e⟩ := th b hb
 rw [e]
 exact fr b o e fun m => dj b m hb
theorem Own.houseNew (w : Own H W) (hh : HouseAt C H' p A S) (fr : Frame [] H H') (n : ∀ b ∈ A.foot p, H b = none) : Own H' (Qam C p S :: W) := by
 obtain ⟨Fs, pr, nd⟩ := w
 have im : Same H H' := fun b o q => fr b o q (by simp)
 have out : ∀ b ∈ A.foot p, b ∉ Fs.flatten := fun b hb z => by
  obtain ⟨F, hF, hb2⟩ := List.mem_flatten.mp z
  obtain ⟨j, hj⟩ := List.getElem?_of_mem hF
  obtain ⟨r, _, q⟩ := pr_getR pr hj
  obtain ⟨o, e⟩ := r.there q b hb2
  rw [n b hb] at e; cases e
 refine ⟨A.foot p :: Fs, .cons ⟨A, hh, rfl⟩ (QE (fun r F _ _ z => r.keep z (fun b hb => ?_) (Imm.same im)) pr), ?_⟩
 ·obtain ⟨o, e⟩ := r.there z b hb
  rw [e]; exact im _ _ e
 ·rw [List.flatten_cons]
  exact List.nodup_append.mpr ⟨HA.footNd hh, nd, fun x hx y hy e => out x hx (e ▸ hy)⟩
end
def Zy (bs : List Box) (i at_ : Nat) (t : T) : List Box := bs.modify i fun b => { b with row := b.row.set at_ t }
def HS.put (S : HS) (i at_ : Nat) (t : T) : HS := { S with boxes := Zy S.boxes i at_ t }
theorem Qck (bs : List Box) (i at_ : Nat) (t : T) : (Zy bs i at_ t).map (·.name) = bs.map (·.name) := by
 unfold Zy
 refine List.ext_getElem? fun j => ?_
 rw [List.getElem?_map, List.getElem?_map, List.getElem?_modify]
 by_cases e : i = j
 ·simp only [e, if_true]
  cases bs[j]? <;> rfl
 ·simp only [e, if_false]
  cases bs[j]? <;> rfl
theorem QjN : Vals [V.non] [Value.none] := .cons rfl .nil
theorem QhK (K : Fg) : PySem.W.kitOne K (.type "NoneType") (.type "tuple") = some false := Qiq (by decide +kernel) (by decide +kernel) (by rfl)
theorem QhL (K : Fg) : PySem.W.kitOne K (.type "int") (.type "tuple") = some false := Qiq (by decide +kernel) (by decide +kernel) (by rfl)
def T.nm : T → V
 | .box n => .int n
 | _ => .non
def T.In (t : T) (ns : List Int) : Prop := ∀ n, t = .box n → n ∈ ns
section
variable {C : Addr}
def Qac : Sp := fun vs H Q _ => ∃ (v : V) (t : T), vs = [v] ∧ isT H t v ∧ Q t.nm H
def QfQ : Sp := fun vs H Q _ => ∃ (v : V) (t : T) (a : Addr) (ns : List Int), vs = [v, .ref a] ∧ isT H t v ∧ H a = some (.lst (ns.map V.int)) ∧
 match t with
 | .box n => ∃ (j : Nat) (m : Int), n = (j : Int) ∧ ns[j]? = some m ∧ ∀ x, H x = none → Q (.ref x) (upd H x (.tup [.str "box", .int m]))
 | _ => Q v H
def QbA (C : Addr) : Sp := fun vs H Q _ => ∃ (p : Addr) (A : HA) (S : HS) (v : V) (t : T), vs = [.ref p, v] ∧ HouseAt C H p A S ∧ isT H t v ∧ t.In (names S) ∧ Q .non H
theorem Qf5 {α : Type} {l : List α} {i : Nat} {x : α} (f : α → α) (h : l[i]? = some x) : l.modify i f = l.set i (f x) := by
 refine List.ext_getElem? fun j => ?_
 rw [List.getElem?_modify, List.getElem?_set]
 have hl := (List.getElem?_eq_some_iff.mp h).1
 by_cases e : i = j
 ·subst e; rw [h]; simp [hl]
 ·simp [e]
theorem Qfx (bs : List Box) (i at_ : Nat) (t : T) : Qr (Zy bs i at_ t) = Qr bs := by
 unfold Qr Zy
 refine List.ext_getElem? fun j => ?_
 rw [List.getElem?_map, List.getElem?_map, List.getElem?_modify]
 by_cases e : i = j
 ·simp only [e, if_true]; cases bs[j]? <;> rfl
 ·simp only [e, if_false]; cases bs[j]? <;> rfl
theorem QfE {bs bs' : List Box} (h : bs'.map (·.name) = bs.map (·.name)) (fl : List Addr) : Qm bs' fl = Qm bs fl := by
 unfold Qm
 have e : ∀ l : List Box, (l.zip fl).map (fun q => ((Sum.inl q.1.name : Key), V.ref q.2)) = (((l.map (·.name)).zip fl).map fun q => ((Sum.inl q.1 : Key), V.ref q.2)) := fun l => by
  rw [List.zip_map_left, List.map_map]; rfl
 rw [e, e, h]
theorem Qbp {α : Type} : ∀ {l : List α} {i j : Nat} {x : α}, l.Nodup → l[i]? = some x → l[j]? = some x → i = j
 | [], _, _, _, _, h, _ => by simp at h
 | y :: l, 0, 0, _, _, _, _ => rfl
 | y :: l, 0, j + 1, x, nd, h1, h2 => by
  have e : y = x := by simpa using h1
  exact absurd (List.mem_of_getElem? (show l[j]? = some x by simpa using h2)) (e ▸ (List.nodup_cons.mp nd).1)
 | y :: l, i + 1, 0, x, nd, h1, h2 => by
  have e : y = x := by simpa using h2
  exact absurd (List.mem_of_getElem? (show l[i]? = some x by simpa using h1)) (e ▸ (List.nodup_cons.mp nd).1)
 | y :: l, i + 1, j + 1, x, nd, h1, h2 => by
  exact congrArg (· + 1) (Qbp (i := i) (j := j) (x := x) (List.nodup_cons.mp nd).2 (by simpa using h1) (by simpa using h2))
theorem Qjj {H H' : Hp} {bs : List Box} {fl : List Addr} {i at_ : Nat} {b : Box} {a : Addr} {ws : List V} {t : T} {v : V} (p : Paired (fun b a => ThL H b.row a) bs fl) (nd : fl.Nodup) (hb : bs[i]? = some b) (ha : fl[i]? = some a)
  (ht : Ths H b.row ws) (tv : isT H t v) (tu : Tups H H') (h1 : H' a = some (.lst (ws.set at_ v))) (h2 : ∀ c ∈ fl, c ≠ a → H' c = H c) : Paired (fun b a => ThL H' b.row a) (Zy bs i at_ t) fl := by
 unfold Zy
 rw [Qf5 _ hb]
 have e : fl = fl.set i a := by
  refine List.ext_getElem? fun j => ?_
  rw [List.getElem?_set]
  by_cases q : i = j
  ·subst q; rw [ha]; simp [(List.getElem?_eq_some_iff.mp ha).1]
  ·simp [q]
 rw [e]
 refine QcW p ⟨_, h1, Ths.keep tu (Qh7 tv at_ ht)⟩ fun j x c hj hx hc z => z.keep tu (h2 c (List.mem_of_getElem? hc) fun q => ?_)
 subst q
 exact hj (Qbp nd hc ha)
theorem HouseAt.flNd {H : Hp} {p : Addr} {A : HA} {S : HS} (h : HouseAt C H p A S) : A.fl.Nodup := by
 have n := h.nd
 unfold HA.lists at n
 have n3 := (List.nodup_cons.mp (List.nodup_cons.mp (List.nodup_cons.mp n).2).2).2
 exact (List.nodup_append.mp n3).1
theorem HouseAt.setField {H : Hp} {p : Addr} {A : HA} {S : HS} {i at_ : Nat} {b : Box} {a : Addr} {ws : List V} {t : T} {v : V} (h : HouseAt C H p A S) (hb : S.boxes[i]? = some b) (ha : A.fl[i]? = some a) (hw : H a = some (.lst ws)) (ht : Ths H b.row ws) (tv : isT H t v) :
  HouseAt C (upd H a (.lst (ws.set at_ v))) p A (S.put i at_ t) := by
 have tu : Tups H (upd H a (.lst (ws.set at_ v))) := Tups.upd hw (by intro xs z; cases z)
 have ham := List.mem_of_getElem? ha
 have nd := h.nd
 unfold HA.lists at nd
 obtain ⟨n1, nd⟩ := List.nodup_cons.mp nd
 obtain ⟨n2, nd⟩ := List.nodup_cons.mp nd
 obtain ⟨n3, nd⟩ := List.nodup_cons.mp nd
 obtain ⟨n4, n5, n6⟩ := List.nodup_append.mp nd
 have e1 : A.sl ≠ a := fun e => n1 (by rw [e]; simp [ham])
 have e2 : A.qs ≠ a := fun e => n2 (by rw [e]; simp [ham])
 have e3 : A.td ≠ a := fun e => n3 (by rw [e]; simp [ham])
 have e4 : ∀ c ∈ A.ql, c ≠ a := fun c hc e => n6 a ham c (by simp [hc]) e.symm
 have e5 : ∀ c ∈ A.tl, c ≠ a := fun c hc e => n6 a ham c (by simp [hc]) e.symm
 refine ⟨?_, h.sl.keep tu (Qf e1), ?_, ?_, Qjj h.fl h.flNd hb ha ht tv tu Qb (fun c _ n => Qf n), ?_, QE (fun b a _ ha z => (Qf (e4 _ ha)).trans z) h.ql, ?_, QE (fun b a _ ha z => (Qf (e5 _ ha)).trans z) h.tl, h.nd, h.kf, ?_, ?_⟩
 ·rw [Qf (QB h.ob hw (by intro z; cases z))]; exact h.ob
 ·rw [Qf (QB h.kd hw (by intro z; cases z))]; show _ = some (HO.dK (Qr (Zy _ _ _ _))); rw [Qfx]; exact h.kd
 ·rw [Qf (QB h.fd hw (by intro z; cases z))]; show _ = some (HO.dK (Qm (Zy _ _ _ _) _)); rw [QfE (Qck _ _ _ _)]; exact h.fd
 ·rw [Qf e2]; exact h.qs
 ·rw [Qf e3]; exact h.td
 ·show ((Zy _ _ _ _).map (·.name)).Pairwise (· < ·); rw [Qck]; exact h.asc
 ·intro x hx
  have hx : x.name ∈ (Zy S.boxes i at_ t).map (·.name) := List.mem_map.mpr ⟨x, hx, rfl⟩
  rw [Qck] at hx
  obtain ⟨y, hy, e⟩ := List.mem_map.mp hx
  rw [← e]; exact h.top y hy
theorem HouseAt.outOne {H : Hp} {p a : Addr} {A : HA} {S S' : HS} {vs : List V} {o : HO} {Q : V → Hp → Prop} {v : V} (h : HouseAt C H p A S) (hm : a ∈ A.lists) (hw : H a = some (.lst vs)) (h' : HouseAt C (upd H a o) p A S') (k : Out C H p A S' Q v) : Q v (upd H a o) :=
 k A _ h' (fun b o q nb => by rw [Qf (fun e => nb (by rw [e]; simp [HA.foot, hm]))]; exact q) (Tups.upd hw (by intro xs z; cases z)) (Grown.refl _ _)
def Qje (C : Addr) : Sp := fun vs H Q _ => ∃ (p : Addr) (A : HA) (S : HS) (i : Nat) (b : Box) (at_ : Nat) (v : V) (t : T), vs = [.ref p, .int b.name, .int at_, v] ∧ HouseAt C H p A S ∧ S.boxes[i]? = some b ∧ at_ < b.row.length ∧ isT H t v ∧ t.In (names S) ∧ Out C H p A (S.put i at_ t) Q .non
def HS.hold (S : HS) (j : Nat) (t : T) : HS := { S with slots := S.slots.set j t }
def QhZ (C : Addr) : Sp := fun vs H Q _ => ∃ (p : Addr) (A : HA) (S : HS) (j : Nat) (v : V) (t : T), vs = [.ref p, .int j, v] ∧ HouseAt C H p A S ∧ j < S.slots.length ∧ isT H t v ∧ t.In (names S) ∧ Out C H p A (S.hold j t) Q .non
end
def cellOf (ns : List Int) (k : Int) : Int := ns.getD k.toNat 0
def drw (ns : List Int) (k : Int) : Int := (cellOf ns (k % 61) + 7919 * k) * 48271 % 2147483647
def TOk (many : Int) : T → Prop
 | .non => True
 | .num i => -(10 ^ 40) < i ∧ i < 10 ^ 40
 | .box n => 1 ≤ n ∧ n ≤ many
structure BOk (many : Int) (b : Box) : Prop where
 kd : b.kind = "plain" ∨ b.kind = "weak" ∨ b.kind = "pair"
 sz : ZQ b.kind b.row.length = b.row.length
 le : b.row.length ≤ 8
 ts : ∀ t ∈ b.row, TOk many t
def RecNew (H0 H : Hp) (ak ar : Addr) (bs : List Box) : Prop := ∃ fl, H ak = some (.dK (Qr bs)) ∧ H ar = some (.dK (Qm bs fl)) ∧ Paired (fun b a => ThL H b.row a) bs fl ∧ (ak :: ar :: fl).Nodup ∧ ∀ b ∈ ak :: ar :: fl, H0 b = none
theorem Own.add {H H' : Hp} {W : List Rt} {r : Rt} {F : List Addr} (w : Own H W) (s : Same H H') (h : r.on H' F) (nd : F.Nodup) (n : ∀ b ∈ F, H b = none) : Own H' (r :: W) := by
 obtain ⟨Fs, p, nd'⟩ := w
 refine ⟨F :: Fs, .cons h (QE (fun r F _ _ z => r.keep z (fun b hb => ?_) (Imm.same s)) p), ?_⟩
 ·obtain ⟨o, e⟩ := r.there z b hb
  rw [e]; exact s _ _ e
 ·rw [List.flatten_cons]
  refine List.nodup_append.mpr ⟨nd, nd', fun x hx y hy e => ?_⟩
  subst e
  obtain ⟨G, hG, hx2⟩ := List.mem_flatten.mp hy
  obtain ⟨j, hj⟩ := List.getElem?_of_mem hG
  obtain ⟨r2, _, q⟩ := pr_getR p hj
  obtain ⟨o, e⟩ := r2.there q x hx2
  rw [n x hx] at e; cases e
theorem RecNew.on {H0 H : Hp} {ak ar : Addr} {bs : List Box} (h : RecNew H0 H ak ar bs) : ∃ F, (rRec ak ar bs).on H F ∧ F.Nodup ∧ ∀ b ∈ F, H0 b = none := let ⟨fl, a, b, c, d, e⟩ := h; ⟨_, ⟨fl, a, b, c, rfl⟩, d, e⟩
theorem ThL.same {H H' : Hp} {ts : List T} {a : Addr} (s : Same H H') (h : ThL H ts a) : ThL H' ts a := let ⟨vs, h1, h2⟩ := h; ⟨vs, s _ _ h1, h2.keep (Tups.of_same s)⟩
theorem RecNew.same {H0 H H' : Hp} {ak ar : Addr} {bs : List Box} (s : Same H H') (h : RecNew H0 H ak ar bs) : RecNew H0 H' ak ar bs := let ⟨fl, a, b, c, d, e⟩ := h; ⟨fl, s _ _ a, s _ _ b, QE (fun _ _ _ _ z => z.same s) c, d, e⟩
theorem QgJ (bs : List Box) (b : Box) : Qr (bs ++ [b]) = Qr bs ++ [((Sum.inl b.name : Key), V.str b.kind)] := by simp [Qr]
theorem Qgd {bs : List Box} {fl : List Addr} (h : bs.length = fl.length) (b : Box) (a : Addr) : Qm (bs ++ [b]) (fl ++ [a]) = Qm bs fl ++ [((Sum.inl b.name : Key), V.ref a)] := by
 unfold Qm
 rw [List.zip_append h, List.map_append]
 rfl
theorem keyOut {bs : List Box} {n : Int} (h : n ∉ bs.map (·.name)) : QaP (Qr bs) (Sum.inl n) = none := by
 refine Qcw ?_
 rw [Qaa]
 intro m
 obtain ⟨b, hb, q⟩ := List.mem_map.mp m
 rw [Sum.inl.inj q] at hb
 exact h hb
theorem QkH {bs : List Box} {fl : List Addr} {n : Int} (hl : bs.length = fl.length) (h : n ∉ bs.map (·.name)) : QaP (Qm bs fl) (Sum.inl n) = none := by
 refine Qcw ?_
 rw [Qag hl]
 intro m
 obtain ⟨b, hb, q⟩ := List.mem_map.mp m
 rw [Sum.inl.inj q] at hb
 exact h hb
theorem Qct (lo : Int) (n : Nat) : QH lo (n + 1) = QH lo n ++ [lo + n] := by
 unfold QH
 rw [List.range_succ, List.map_append]
 rfl
theorem Qat {lo : Int} {n : Nat} {x : Int} : x ∈ QH lo n ↔ lo ≤ x ∧ x < lo + n := by
 unfold QH
 rw [List.mem_map]
 constructor
 ·rintro ⟨k, hk, rfl⟩
  have := List.mem_range.mp hk
  omega
 ·rintro ⟨h1, h2⟩
  exact ⟨(x - lo).toNat, List.mem_range.mpr (by omega), by omega⟩
theorem Qj7 {many : Int} (i : Int) (h1 : 0 ≤ i) (h2 : i < 100) : TOk many (.num i) := by
 have h3 : (100 : Int) < 10 ^ 40 := by decide
 exact ⟨by omega, by omega⟩
theorem Zr {n : Nat} (h : n ≤ 1000) : n ≤ sizeLine := Nat.le_of_lt (QK h)
section
variable {C : Addr}
def Qfd (K : Fg) : Sp := fun vs H Q _ => ∃ (a : Addr) (ns : List Int) (k : Int), vs = [.ref a, .int k] ∧ Scr K H a ns ∧ 0 ≤ k ∧ Q (.int (cellOf ns k)) H
def Qcj (K : Fg) : Sp := fun vs H Q _ => ∃ (a : Addr) (ns : List Int) (k : Int), vs = [.ref a, .int k] ∧ Scr K H a ns ∧ Q (.int (drw ns k)) H
def QhT (K : Fg) : Sp := fun vs H Q _ => ∃ (a : Addr) (ns : List Int), vs = [.ref a] ∧ Scr K H a ns ∧ ∀ m : Int, 1 ≤ m → m ≤ 40 → Q (.int m) H
def QgU (K : Fg) : Sp := fun vs H Q _ => ∃ (a : Addr) (ns : List Int) (k : Int), vs = [.ref a, .int k] ∧ Scr K H a ns ∧ ∀ i : Int, -(10 ^ 40) < i → i < 10 ^ 40 → Q (.int i) H
theorem p40 : (0 : Int) < 10 ^ 40 := by decide
def QhO (K : Fg) : Sp := fun vs H Q _ => ∃ (a : Addr) (ns : List Int) (k many : Int), vs = [.ref a, .int k, .int many] ∧ Scr K H a ns ∧ 1 ≤ many ∧ ∀ t v H', Same H H' → isT H' t v → TOk many t → Q v H'
def QhQ (K : Fg) : Sp := fun vs H Q _ => ∃ (a : Addr) (ns : List Int) (count many : Int), vs = [.ref a, .int count, .int many] ∧ Scr K H a ns ∧ 0 ≤ count ∧ count ≤ 1000 ∧ 1 ≤ many ∧
 ∀ l ts H', Same H H' → H l = none → ThL H' ts l → (ts.length : Int) = count → (∀ t ∈ ts, TOk many t) → Q (.ref l) H'
end
theorem Qko : ¬ (("plain" : Str) = "weak") := by decide +kernel
theorem Qkn : ¬ (("plain" : Str) = "pair") := by decide +kernel
theorem Qkm : ¬ (("pair" : Str) = "weak") := by decide +kernel
theorem QeV (n : Int) : ZQ "plain" n = n := by unfold ZQ; rw [if_neg Qko, if_neg Qkn]
theorem Qh2 (n : Int) : ZQ "weak" n = 1 := by unfold ZQ; rw [if_pos rfl]
theorem Qh3 (n : Int) : ZQ "pair" n = 2 := by unfold ZQ; rw [if_neg Qkm, if_pos rfl]
theorem menu4 (c : Int) : ∃ (kd : Str) (sz : Int), atI [V.str "plain", V.str "weak", V.str "pair", V.str "plain"] (c % 4) = some (V.str kd) ∧ atI [V.int (c / 4 % 9), V.int 1, V.int 2, V.int (c / 4 % 3)] (c % 4) = some (V.int sz) ∧
  (kd = "plain" ∨ kd = "weak" ∨ kd = "pair") ∧ 0 ≤ sz ∧ sz ≤ 8 ∧ ZQ kd sz = sz := by
 have h1 := Int.emod_nonneg (c / 4) (show (9 : Int) ≠ 0 by decide)
 have h2 := Int.emod_lt_of_pos (c / 4) (show (0 : Int) < 9 by decide)
 have h3 := Int.emod_nonneg (c / 4) (show (3 : Int) ≠ 0 by decide)
 have h4 := Int.emod_lt_of_pos (c / 4) (show (0 : Int) < 3 by decide)
 have : c % 4 = 0 ∨ c % 4 = 1 ∨ c % 4 = 2 ∨ c % 4 = 3 := by omega
 rcases this with e | e | e | e
 ·rw [e]; exact ⟨_, _, rfl, rfl, .inl rfl, h1, by omega, QeV _⟩
 ·rw [e]; exact ⟨_, _, rfl, rfl, .inr (.inl rfl), by decide, by decide, Qh2 _⟩
 ·rw [e]; exact ⟨_, _, rfl, rfl, .inr (.inr rfl), by decide, by decide, Qh3 _⟩
 ·rw [e]; exact ⟨_, _, rfl, rfl, .inl rfl, h3, by omega, QeV _⟩
theorem RecNew.snoc {H0 H H1 H2 H3 : Hp} {ak ar a : Addr} {bs : List Box} {b : Box} (h : RecNew H0 H ak ar bs) (s1 : Same H H1) (n : b.name ∉ bs.map (·.name))
  (e2 : H2 = upd H1 ak (.dK (QbK (Qr bs) (Sum.inl b.name) (.str b.kind)))) (s2 : Same H2 H3) (ta : ThL H3 b.row a) (fa : H2 a = none) (s0 : Same H0 H2) {o : HO} (fl' : ∀ fl, H3 ar = some (.dK (Qm bs fl)) → o = .dK (QbK (Qm bs fl) (Sum.inl b.name) (.ref a))) :
  RecNew H0 (upd H3 ar o) ak ar (bs ++ [b]) := by
 obtain ⟨fl, h1, h2, p, nd, fr⟩ := h
 obtain ⟨m1, nd1⟩ := List.nodup_cons.mp nd
 obtain ⟨m2, nd2⟩ := List.nodup_cons.mp nd1
 have hka : ak ≠ ar := fun e => m1 (by simp [e])
 have r2 : H2 ar = some (.dK (Qm bs fl)) := by rw [e2, Qf hka.symm]; exact s1 _ _ h2
 have r3 := s2 _ _ r2
 have k2 : H2 ak = some (.dK (QbK (Qr bs) (Sum.inl b.name) (.str b.kind))) := by rw [e2]; exact Qb
 have k3 := s2 _ _ k2
 rw [Qbf _ (keyOut n)] at k3
 have hl := pr_len p
 have t12 : Tups H1 H2 := by rw [e2]; exact Tups.upd (s1 _ _ h1) (by intro xs z; cases z)
 have t3 : Tups H3 (upd H3 ar o) := Tups.upd r3 (by intro xs z; cases z)
 have lists : ∀ c ∈ fl, c ≠ ak ∧ c ≠ ar := fun c hc => ⟨fun e => m1 (by simp [← e, hc]), fun e => m2 (by rw [← e]; exact hc)⟩
 have na : a ≠ ak ∧ a ≠ ar ∧ a ∉ fl := by
  refine ⟨fun e => ?_, fun e => ?_, fun hc => ?_⟩
  ·rw [e, k2] at fa; cases fa
  ·rw [e, r2] at fa; cases fa
  ·obtain ⟨j, hj⟩ := List.getElem?_of_mem hc
   obtain ⟨x, _, vs, z, _⟩ := pr_getR p hj
   have z2 : H2 a = some (.lst vs) := by rw [e2, Qf (lists a hc).1]; exact s1 _ _ z
   rw [z2] at fa; cases fa
 refine ⟨fl ++ [a], ?_, ?_, ?_, ?_, ?_⟩
 ·rw [Qf hka, k3, QgJ]
 ·rw [Qb, fl' fl r3, Qbf _ (QkH hl n), Qgd hl]
 ·refine Qci (QE (fun x c _ hc z => ?_) p) (.cons (ta.keep t3 (Qf na.2.1)) .nil)
  have z1 := z.same s1
  have z2 : ThL H2 x.row c := z1.keep t12 (by rw [e2, Qf (lists c hc).1])
  exact (z2.same s2).keep t3 (Qf (lists c hc).2)
 ·refine List.nodup_cons.mpr ⟨fun m => ?_, List.nodup_cons.mpr ⟨fun m => ?_, QcY nd2 na.2.2⟩⟩
  ·have m : ak = ar ∨ ak ∈ fl ∨ ak = a := by simpa using m
   rcases m with e | e | e
   ·exact hka e
   ·exact (lists _ e).1 rfl
   ·exact na.1 e.symm
  ·have m : ar ∈ fl ∨ ar = a := by simpa using m
   rcases m with e | e
   ·exact (lists _ e).2 rfl
   ·exact na.2.1 e.symm
 ·intro c hc
  have hc : c ∈ ak :: ar :: fl ∨ c = a := by simpa [or_assoc] using hc
  rcases hc with hc | rfl
  ·exact fr c hc
  ·exact s0.free fa
section
variable {C : Addr}
def Qh1 (K : Fg) : Sp := fun vs H Q _ => ∃ (a : Addr) (ns : List Int) (many : Int), vs = [.ref a, .int many] ∧ Scr K H a ns ∧ 1 ≤ many ∧ many ≤ 1000 ∧
 ∀ m ak ar bs H', Same H H' → H' m = some (.tup [.ref ak, .ref ar]) → RecNew H H' ak ar bs → bs.map (·.name) = QH 1 many.toNat → (∀ b ∈ bs, BOk many b) → Q (.ref m) H'
end
def Box.blank (b : Box) : Box := ⟨b.name, b.kind, List.replicate b.row.length .non⟩
def e4 : List (List Int) := [[], [], [], []]
theorem QdS {C p l : Addr} {H H1 H2 : Hp} {A A2 : HA} {S : HS} {o : HO} (s : Same H H1) (f0 : ∀ b ∈ A.foot p, H b = none) (hl : H1 l = some o) (nl : l ∉ A.foot p) (fr : Frame (A.foot p) H1 H2) (gr : Grown (A.foot p) (A2.foot p) H1) :
  Same H H2 ∧ (∀ b ∈ A2.foot p, H b = none) ∧ H2 l = some o ∧ l ∉ A2.foot p := by
 refine ⟨fun b u e => fr b u (s _ _ e) fun m => ?_, fun b hb => ?_, fr l o hl nl, gr.out hl nl⟩
 ·have := f0 b m
  rw [e] at this; cases this
 ·rcases gr b hb with z | z
  ·exact f0 b z
  ·exact s.free z
theorem QhA (bs : List Box) (i : Nat) (b : Box) (h : bs[i]? = some b) : (bs.take (i + 1)).map Box.blank = (bs.take i).map Box.blank ++ [b.blank] := by
 rw [List.take_add_one, h, List.map_append]
 rfl
theorem Qim {bs : List Box} {n i : Nat} (h : bs.map (·.name) = QH 1 n) {b : Box} (hb : bs[i]? = some b) : b.name = 1 + (i : Int) ∧ i < n := by
 have h1 : (bs.map (·.name))[i]? = some b.name := by rw [List.getElem?_map, hb]; rfl
 have hl := (List.getElem?_eq_some_iff.mp h1).1
 rw [h, QJ] at hl
 rw [h, Qe4 hl] at h1
 exact ⟨(Option.some.inj h1).symm, hl⟩
theorem Qf9 {lo : Int} {n i : Nat} {x : V} (h : ((QH lo n).map V.int)[i]? = some x) : i < n ∧ x = .int (lo + i) := by
 have hl := (List.getElem?_eq_some_iff.mp h).1
 rw [List.length_map, QJ] at hl
 rw [List.getElem?_map, Qe4 hl] at h
 exact ⟨hl, (Option.some.inj h).symm⟩
theorem kindAt {bs : List Box} (nd : (bs.map (·.name)).Nodup) {i : Nat} {b : Box} (e : bs[i]? = some b) : QaP (Qr bs) (Sum.inl b.name) = some (.str b.kind) := by
 refine QcT (by rw [Qaa]; exact QcZ nd) (i := i) ?_
 simp [Qr, e]
theorem rowAt {bs : List Box} {fl : List Addr} (hl : bs.length = fl.length) (nd : (bs.map (·.name)).Nodup) {i : Nat} {b : Box} {a : Addr} (e : bs[i]? = some b) (ha : fl[i]? = some a) : QaP (Qm bs fl) (Sum.inl b.name) = some (.ref a) := by
 refine QcT (by rw [Qag hl]; exact QcZ nd) (i := i) ?_
 unfold Qm
 rw [List.getElem?_map, List.getElem?_zip_eq_some.mpr (show bs[i]? = some (b, a).1 ∧ fl[i]? = some (b, a).2 from ⟨e, ha⟩)]
 rfl
theorem Qb4 (lo : Int) : ∀ n : Nat, (QH lo n).Pairwise (· < ·)
 | 0 => .nil
 | n + 1 => by
  rw [Qct]
  refine List.pairwise_append.mpr ⟨Qb4 lo n, List.pairwise_singleton _ _, fun x hx y hy => ?_⟩
  rw [List.mem_singleton.mp hy]
  exact (Qat.mp hx).2
def ZF (bs : List Box) (i j : Nat) : List Box := bs.mapIdx fun k b => if k < i then b else if k = i then ⟨b.name, b.kind, b.row.take j ++ List.replicate (b.row.length - j) .non⟩ else b.blank
theorem Qh6 (bs : List Box) : ZF bs 0 0 = bs.map Box.blank := by
 unfold ZF
 refine List.ext_getElem? fun k => ?_
 rw [List.getElem?_mapIdx, List.getElem?_map]
 cases bs[k]? with
 | none => rfl
 | some b =>
  simp only [Option.map_some, Nat.not_lt_zero, if_false]
  split
  ·simp [Box.blank]
  ·rfl
theorem Qgx {bs : List Box} {i : Nat} {b : Box} (h : bs[i]? = some b) : ZF bs i b.row.length = ZF bs (i + 1) 0 := by
 unfold ZF
 refine List.ext_getElem? fun k => ?_
 rw [List.getElem?_mapIdx, List.getElem?_mapIdx]
 cases e : bs[k]? with
 | none => rfl
 | some c =>
  simp only [Option.map_some, Option.some.injEq]
  by_cases h1 : k < i
  ·rw [if_pos h1, if_pos (by omega)]
  ·rw [if_neg h1]
   by_cases h2 : k = i
   ·subst h2
    rw [h] at e; cases e
    rw [if_pos rfl, if_pos (by omega)]
    simp
   ·rw [if_neg h2, if_neg (by omega)]
    split
    ·simp [Box.blank]
    ·rfl
theorem Qhj (bs : List Box) : ZF bs bs.length 0 = bs := by
 unfold ZF
 refine List.ext_getElem? fun k => ?_
 rw [List.getElem?_mapIdx]
 cases e : bs[k]? with
 | none => rfl
 | some c =>
  have := (List.getElem?_eq_some_iff.mp e).1
  simp only [Option.map_some, if_pos this]
theorem Qgy (bs : List Box) (i j : Nat) : (ZF bs i j).map (·.name) = bs.map (·.name) := by
 unfold ZF
 refine List.ext_getElem? fun k => ?_
 rw [List.getElem?_map, List.getElem?_mapIdx, List.getElem?_map]
 cases bs[k]? with
 | none => rfl
 | some b =>
  simp only [Option.map_some]
  split
  ·rfl
  ·split <;> rfl
theorem QcB {bs : List Box} {i j : Nat} {b : Box} (h : bs[i]? = some b) : (ZF bs i j)[i]? = some ⟨b.name, b.kind, b.row.take j ++ List.replicate (b.row.length - j) .non⟩ := by
 unfold ZF
 rw [List.getElem?_mapIdx, h]
 simp
theorem QfV {α : Type} {l : List α} {j : Nat} {t x : α} (h : l[j]? = some t) : (l.take j ++ List.replicate (l.length - j) x).set j t = l.take (j + 1) ++ List.replicate (l.length - (j + 1)) x := by
 have hj := (List.getElem?_eq_some_iff.mp h).1
 have e : l.length - j = l.length - (j + 1) + 1 := by omega
 have ht : (l.take j).length = j := by rw [List.length_take]; omega
 rw [List.set_append_right _ _ (by omega), ht, Nat.sub_self, e, List.replicate_succ, List.set_cons_zero, List.take_add_one, h, List.append_assoc]
 rfl
theorem Qff {α : Type} {l m : List α} {j : Nat} {t : α} (h : l[j]? = some t) (hm : j < m.length) : (l.take j ++ m.drop j).set j t = l.take (j + 1) ++ m.drop (j + 1) := by
 have hj := (List.getElem?_eq_some_iff.mp h).1
 have ht : (l.take j).length = j := by rw [List.length_take]; omega
 rw [List.set_append_right _ _ (by omega), ht, Nat.sub_self, List.drop_eq_getElem_cons hm, List.set_cons_zero, List.take_add_one, h, List.append_assoc]
 rfl
theorem Qhi {bs : List Box} {i j : Nat} {b : Box} {t : T} (h : bs[i]? = some b) (ht : b.row[j]? = some t) : Zy (ZF bs i j) i j t = ZF bs i (j + 1) := by
 unfold Zy
 rw [Qf5 _ (QcB h)]
 refine List.ext_getElem? fun k => ?_
 rw [List.getElem?_set]
 by_cases e : i = k
 ·subst e
  rw [QcB h]
  have hl : i < (ZF bs i j).length := by
   have := (List.getElem?_eq_some_iff.mp h).1
   simpa [ZF] using this
  rw [if_pos rfl, if_pos hl, QcB h]
  simp only [QfV ht]
 ·rw [if_neg e]
  unfold ZF
  rw [List.getElem?_mapIdx, List.getElem?_mapIdx]
  cases bs[k]? with
  | none => rfl
  | some c =>
   simp only [Option.map_some]
   rw [if_neg (show ¬ k = i from fun q => e q.symm), if_neg (show ¬ k = i from fun q => e q.symm)]
section
variable {C : Addr}
def QhX (C : Addr) : Sp := fun vs H Q _ => ∃ (ak ar as : Addr) (fl : List Addr) (bs : List Box) (ts : List T) (extra : Int), vs = [.ref ak, .ref ar, .ref as, .int extra] ∧ H ak = some (.dK (Qr bs)) ∧ H ar = some (.dK (Qm bs fl)) ∧
 Paired (fun b a => ThL H b.row a) bs fl ∧ ThL H ts as ∧ bs.map (·.name) = QH 1 bs.length ∧ bs.length < 64 ∧ (∀ b ∈ bs, BOk bs.length b) ∧ 1 ≤ ts.length ∧ ts.length ≤ 1000 ∧ (∀ t ∈ ts, TOk bs.length t) ∧ 0 ≤ extra ∧
 ∀ p A H', Same H H' → HouseAt C H' p A ⟨bs.length + extra, ts, bs.length, bs, e4, e4⟩ → (∀ b ∈ A.foot p, H b = none) → Q (.ref p) H'
end
def Qhk (K : Fg) (a : Addr) (ns : List Int) : Rt where
 on H F := Scr K H a ns ∧ F = []
 keep := by
  rintro H H' F ⟨h, rfl⟩ k im
  exact ⟨h.keep im.f, rfl⟩
 there := by
  rintro H F ⟨h, rfl⟩ b hb
  simp at hb
theorem Own.scr {K : Fg} {H : Hp} {W : List Rt} {i : Nat} {a : Addr} {ns : List Int} (w : Own H W) (h : W[i]? = some (Qhk K a ns)) : Scr K H a ns := by
 obtain ⟨F, q, _⟩ := w.get h
 exact q
theorem Own.tup {H : Hp} {W : List Rt} {i : Nat} {a : Addr} {vs : List V} (w : Own H W) (h : W[i]? = some (rTup a vs)) : H a = some (.tup vs) := by
 obtain ⟨F, q, _⟩ := w.get h
 exact q
theorem Own.rec {H : Hp} {W : List Rt} {i : Nat} {ak ar : Addr} {bs : List Box} (w : Own H W) (h : W[i]? = some (rRec ak ar bs)) : ∃ fl, H ak = some (.dK (Qr bs)) ∧ H ar = some (.dK (Qm bs fl)) ∧ Paired (fun b a => ThL H b.row a) bs fl := by
 obtain ⟨F, fl, q1, q2, q3, _⟩ := w.get h
 exact ⟨fl, q1, q2, q3⟩
end LW
namespace LW
open PySem L2
section
variable {α : Type}
theorem Qf0 {β : Type} {F : α → β → Prop} : ∀ {xs : List α} {ys : List β}, xs.length = ys.length → (∀ (k : Nat) a b, xs[k]? = some a → ys[k]? = some b → F a b) → Paired F xs ys
 | [], [], _, _ => .nil
 | [], _ :: _, h, _ => by simp at h
 | _ :: _, [], h, _ => by simp at h
 | x :: xs, y :: ys, h, f => .cons (f 0 x y rfl rfl) (Qf0 (by simpa using h) fun k a b h1 h2 => f (k + 1) a b (by simpa using h1) (by simpa using h2))
end
def swapB (bs : List Box) (i j : Nat) : List Box := match bs[i]?, bs[j]? with
 | some x, some y => (bs.set i ⟨x.name, y.kind, y.row⟩).set j ⟨y.name, x.kind, x.row⟩
 | _, _ => bs
def HS.swap (S : HS) (i j : Nat) : HS := { S with boxes := swapB S.boxes i j }
section
variable {bs : List Box} {fl : List Addr} {i j : Nat} {x y : Box} {fi fj : Addr}
end
section
variable {C : Addr} {H H' : Hp} {p : Addr} {A : HA} {S : HS} {i j : Nat} {x y : Box} {fi fj : Addr}
end
theorem QcL (n : Int) (ns : List Int) : inV (.int n) (ns.map V.int) = decide (n ∈ ns) := by
 unfold inV
 rw [List.any_map]
 induction ns with
 | nil => simp
 | cons m r ih =>
  rw [List.any_cons, ih]
  simp only [Function.comp, eqV, List.mem_cons]
  by_cases e : n = m
  ·subst e; simp
  ·have e2 : ¬ m = n := fun z => e z.symm
   simp [e, e2]
theorem QbT (ns : List Int) : (ns.map V.int).all Qc4 = true := by
 rw [List.all_map]
 exact List.all_eq_true.mpr fun _ _ => rfl
theorem Qip {H H' : Hp} {xss : List (List Int)} {al : List Addr} {g : Nat} {a : Addr} {ns : List Int} (p : Paired (Qhe H) xss al) (nd : al.Nodup) (ha : al[g]? = some a) (h1 : Qhe H' ns a) (h2 : ∀ c ∈ al, c ≠ a → H' c = H c) : Paired (Qhe H') (xss.set g ns) al := by
 have e : al = al.set g a := by
  refine List.ext_getElem? fun j => ?_
  rw [List.getElem?_set]
  by_cases q : g = j
  ·subst q; rw [ha]; simp [(List.getElem?_eq_some_iff.mp ha).1]
  ·simp [q]
 rw [e]
 exact QcW p h1 fun j x c hj hx hc z => (h2 c (List.mem_of_getElem? hc) fun q => hj (Qbp nd (q ▸ hc) ha)).trans z
section
variable {C : Addr} {H : Hp} {p : Addr} {A : HA} {S : HS} {g : Nat} {a : Addr} {ns ms : List Int}
theorem HouseAt.parts (h : HouseAt C H p A S) : A.sl ∉ A.fl ++ (A.ql ++ A.tl) ∧ A.qs ∉ A.fl ++ (A.ql ++ A.tl) ∧ A.td ∉ A.fl ++ (A.ql ++ A.tl) ∧ A.fl.Nodup ∧ A.ql.Nodup ∧ A.tl.Nodup ∧ (∀ x ∈ A.fl, x ∉ A.ql ∧ x ∉ A.tl) ∧ ∀ x ∈ A.ql, x ∉ A.tl := by
 have nd := h.nd
 unfold HA.lists at nd
 obtain ⟨n1, nd⟩ := List.nodup_cons.mp nd
 obtain ⟨n2, nd⟩ := List.nodup_cons.mp nd
 obtain ⟨n3, nd⟩ := List.nodup_cons.mp nd
 obtain ⟨n4, n5, n6⟩ := List.nodup_append.mp nd
 obtain ⟨n7, n8, n9⟩ := List.nodup_append.mp n5
 exact ⟨fun m => n1 (List.mem_cons_of_mem _ (List.mem_cons_of_mem _ m)), fun m => n2 (List.mem_cons_of_mem _ m), n3, n4, n7, n8,
  fun x hx => ⟨fun m => n6 x hx x (List.mem_append_left _ m) rfl, fun m => n6 x hx x (List.mem_append_right _ m) rfl⟩, fun x hx m => n9 x hx x m rfl⟩
theorem HouseAt.setQueue (h : HouseAt C H p A S) (ha : A.ql[g]? = some a) (hi : Qhe H ns a) : HouseAt C (upd H a (.lst (ms.map V.int))) p A { S with queues := S.queues.set g ms } := by
 obtain ⟨c1, c2, c3, c4, c5, c6, c7, c8⟩ := h.parts
 have ham := List.mem_of_getElem? ha
 have tu : Tups H (upd H a (.lst (ms.map V.int))) := Tups.upd hi (by intro xs z; cases z)
 have e1 : A.sl ≠ a := fun e => c1 (by rw [e]; simp [ham])
 have e2 : A.qs ≠ a := fun e => c2 (by rw [e]; simp [ham])
 have e3 : A.td ≠ a := fun e => c3 (by rw [e]; simp [ham])
 have e4 : ∀ c ∈ A.fl, c ≠ a := fun c hc e => (c7 c hc).1 (e ▸ ham)
 have e5 : ∀ c ∈ A.tl, c ≠ a := fun c hc e => c8 a ham (e ▸ hc)
 refine ⟨?_, h.sl.keep tu (Qf e1), ?_, ?_, QE (fun b c _ hc z => z.keep tu (Qf (e4 c hc))) h.fl, ?_, Qip h.ql c5 ha Qb (fun c _ n => Qf n), ?_, QE (fun b c _ hc z => (Qf (e5 c hc)).trans z) h.tl, h.nd, h.kf, h.asc, h.top⟩
 ·rw [Qf (QB h.ob hi (by intro z; cases z))]; exact h.ob
 ·rw [Qf (QB h.kd hi (by intro z; cases z))]; exact h.kd
 ·rw [Qf (QB h.fd hi (by intro z; cases z))]; exact h.fd
 ·rw [Qf e2]; exact h.qs
 ·rw [Qf e3]; exact h.td
theorem HouseAt.setTold (h : HouseAt C H p A S) (ha : A.tl[g]? = some a) (hi : Qhe H ns a) : HouseAt C (upd H a (.lst (ms.map V.int))) p A { S with told := S.told.set g ms } := by
 obtain ⟨c1, c2, c3, c4, c5, c6, c7, c8⟩ := h.parts
 have ham := List.mem_of_getElem? ha
 have tu : Tups H (upd H a (.lst (ms.map V.int))) := Tups.upd hi (by intro xs z; cases z)
 have e1 : A.sl ≠ a := fun e => c1 (by rw [e]; simp [ham])
 have e2 : A.qs ≠ a := fun e => c2 (by rw [e]; simp [ham])
 have e3 : A.td ≠ a := fun e => c3 (by rw [e]; simp [ham])
 have e4 : ∀ c ∈ A.fl, c ≠ a := fun c hc e => (c7 c hc).2 (e ▸ ham)
 have e5 : ∀ c ∈ A.ql, c ≠ a := fun c hc e => c8 c hc (e ▸ ham)
 refine ⟨?_, h.sl.keep tu (Qf e1), ?_, ?_, QE (fun b c _ hc z => z.keep tu (Qf (e4 c hc))) h.fl, ?_, QE (fun b c _ hc z => (Qf (e5 c hc)).trans z) h.ql, ?_, Qip h.tl c6 ha Qb (fun c _ n => Qf n), h.nd, h.kf, h.asc, h.top⟩
 ·rw [Qf (QB h.ob hi (by intro z; cases z))]; exact h.ob
 ·rw [Qf (QB h.kd hi (by intro z; cases z))]; exact h.kd
 ·rw [Qf (QB h.fd hi (by intro z; cases z))]; exact h.fd
 ·rw [Qf e2]; exact h.qs
 ·rw [Qf e3]; exact h.td
end
def HS.watch (S : HS) (g : Nat) (ns : List Int) (n : Int) : HS := { S with queues := S.queues.set g (ns ++ [n]) }
def QhN (C : Addr) : Sp := fun vs H Q _ => ∃ (p : Addr) (A : HA) (S : HS) (g : Nat) (n : Int) (ns : List Int), vs = [.ref p, .int g, .int n] ∧ HouseAt C H p A S ∧ g < 4 ∧ S.queues[g]? = some ns ∧ n ∈ names S ∧ n ∉ ns ∧ ns.length < 1000 ∧ Out C H p A (S.watch g ns n) Q .non
def Qgt (C : Addr) : Sp := fun vs H Q _ => ∃ (p : Addr) (A : HA) (S : HS) (g : Nat) (ns : List Int), vs = [.ref p, .int g] ∧ HouseAt C H p A S ∧ g < 4 ∧ S.told[g]? = some ns ∧ ∀ l, H l = none → Q (.ref l) (upd H l (.lst (ns.map V.int)))
structure Upto (C : Addr) (H : Hp) (p : Addr) (A : HA) (H' : Hp) (A' : HA) (S' : HS) : Prop where
 hh : HouseAt C H' p A' S'
 fr : Frame (A.foot p) H H'
 tu : Tups H H'
 gr : Grown (A.foot p) (A'.foot p) H
section
variable {C : Addr} {H H1 H2 : Hp} {p : Addr} {A A1 A2 : HA} {S1 S2 : HS} {l : Addr} {o : HO}
theorem Upto.refl {S : HS} (h : HouseAt C H p A S) : Upto C H p A H A S := ⟨h, Frame.refl _ _, Tups.refl _, Grown.refl _ _⟩
theorem Upto.step (u : Upto C H p A H1 A1 S1) (h : HouseAt C H2 p A2 S2) (fr : Frame (A1.foot p) H1 H2) (tu : Tups H1 H2) (gr : Grown (A1.foot p) (A2.foot p) H1) : Upto C H p A H2 A2 S2 where
 hh := h
 fr := fun b o e n => fr b o (u.fr b o e n) (u.gr.out e n)
 tu := u.tu.trans tu
 gr := fun b hb => by
  rcases gr b hb with z | z
  ·exact u.gr b z
  ·by_cases m : b ∈ A.foot p
   ·exact .inl m
   ·right
    cases e : H b with
    | none => rfl
    | some o => rw [u.fr b o e m] at z; cases z
theorem Upto.new (u : Upto C H p A H1 A1 S1) (n : H1 l = none) : Upto C H p A (upd H1 l o) A1 S1 :=
 u.step (u.hh.new n) (fun b o e _ => Zt e n) (Tups.new n) (Grown.refl _ _)
theorem Upto.same (u : Upto C H p A H1 A1 S1) (s : Same H1 H2) : Upto C H p A H2 A1 S1 :=
 u.step (u.hh.same s) (Frame.of_same s) (Tups.of_same s) (Grown.refl _ _)
theorem Upto.keep (u : Upto C H p A H1 A1 S1) {b : Addr} {o : HO} (e : H b = some o) (n : b ∉ A.foot p) : H1 b = some o ∧ b ∉ A1.foot p := ⟨u.fr b o e n, u.gr.out e n⟩
theorem Upto.out {Q : V → Hp → Prop} {v : V} (u : Upto C H p A H1 A1 S1) (k : Out C H p A S1 Q v) : Q v H1 := k A1 H1 u.hh u.fr u.tu u.gr
end
def LlsAt (H : Hp) (w : Addr) (al : List Addr) (xss : List (List Int)) : Prop := H w = some (.lst (al.map V.ref)) ∧ Paired (Qhe H) xss al
def LlsNew (H0 H : Hp) (w : Addr) (xss : List (List Int)) : Prop := ∃ al, LlsAt H w al xss ∧ (w :: al).Nodup ∧ ∀ b ∈ w :: al, H0 b = none
section
variable {H : Hp} {W : List Rt} {i j : Nat} {r r2 : Rt}
theorem LlsNew.on {H0 : Hp} {a : Addr} {xss : List (List Int)} (h : LlsNew H0 H a xss) : ∃ F, (QfX a xss).on H F ∧ F.Nodup ∧ ∀ b ∈ F, H0 b = none := let ⟨al, ⟨a1, a2⟩, b, c⟩ := h; ⟨_, ⟨al, a1, a2, rfl⟩, b, c⟩
variable {ak ar : Addr} {bs : List Box} {m n : Nat} {x y : Box}
end
theorem rdE4 {σ : St} {H : Hp} {Q : VK} (k : ∀ l H', Same H H' → LlsNew H H' l [[], [], [], []] → Q (.ref l) H') : Qki (Qgr (Qki QhH) (Qgr (Qki QhH) (Qgr (Qki QhH) (Qgr (Qki QhH) QhH)))) σ H Q := by
 refine ⟨Nat.zero_le _, fun a0 h0 => ⟨Nat.zero_le _, fun a1 h1 => ⟨Nat.zero_le _, fun a2 h2 => ⟨Nat.zero_le _, fun a3 h3 => ⟨zl, fun l hl => ?_⟩⟩⟩⟩⟩
 have n10 := Qd (Qb (H := H) (a := a0) (o := .lst [])) h1
 have n20 := Qd (Zt (o := .lst []) (Qb (H := H) (a := a0) (o := .lst [])) h1) h2
 have n21 := Qd (Qb (H := upd H a0 (.lst [])) (a := a1) (o := .lst [])) h2
 have f1 : H a1 = none := Qaj h1
 have f2 : H a2 = none := Qaj (Qaj h2)
 have f3 : H a3 = none := Qaj (Qaj (Qaj h3))
 have fl : H l = none := Qaj (Qaj (Qaj (Qaj hl)))
 have s4 : Same H (upd (upd (upd (upd H a0 (.lst [])) a1 (.lst [])) a2 (.lst [])) a3 (.lst [])) := ((((Same.new h0).trans (Same.new h1)).trans (Same.new h2)).trans (Same.new h3))
 have g3 : (upd (upd (upd (upd H a0 (.lst [])) a1 (.lst [])) a2 (.lst [])) a3 (.lst [])) a3 = some (.lst []) := Qb
 have g2 : (upd (upd (upd (upd H a0 (.lst [])) a1 (.lst [])) a2 (.lst [])) a3 (.lst [])) a2 = some (.lst []) := Zt Qb h3
 have g1 : (upd (upd (upd (upd H a0 (.lst [])) a1 (.lst [])) a2 (.lst [])) a3 (.lst [])) a1 = some (.lst []) := Zt (Zt Qb h2) h3
 have g0 : (upd (upd (upd (upd H a0 (.lst [])) a1 (.lst [])) a2 (.lst [])) a3 (.lst [])) a0 = some (.lst []) := Zt (Zt (Zt Qb h1) h2) h3
 have n30 : a0 ≠ a3 := Qd (Zt (Zt Qb h1) h2) h3
 have n31 : a1 ≠ a3 := Qd (Zt Qb h2) h3
 have n32 : a2 ≠ a3 := Qd Qb h3
 show Q (.ref l) (upd (upd (upd (upd (upd H a0 (.lst [])) a1 (.lst [])) a2 (.lst [])) a3 (.lst [])) l (.lst [.ref a0, .ref a1, .ref a2, .ref a3]))
 generalize upd (upd (upd (upd H a0 (.lst [])) a1 (.lst [])) a2 (.lst [])) a3 (.lst []) = H4 at s4 g0 g1 g2 g3 hl ⊢
 have m0 := Qd g0 hl
 have m1 := Qd g1 hl
 have m2 := Qd g2 hl
 have m3 := Qd g3 hl
 refine k l _ (s4.trans (Same.new hl)) ⟨[a0, a1, a2, a3], ⟨Qb, .cons (Zt g0 hl) (.cons (Zt g1 hl) (.cons (Zt g2 hl) (.cons (Zt g3 hl) .nil)))⟩, ?_, ?_⟩
 ·simp only [List.nodup_cons, List.mem_cons, List.not_mem_nil, or_false, not_or, List.nodup_nil, not_false_eq_true, and_true]
  exact ⟨⟨m0.symm, m1.symm, m2.symm, m3.symm⟩, ⟨n10, n20, n30⟩, ⟨n21, n31⟩, n32⟩
 ·intro b hb
  have hb : b = l ∨ b = a0 ∨ b = a1 ∨ b = a2 ∨ b = a3 := by simpa using hb
  rcases hb with rfl | rfl | rfl | rfl | rfl <;> assumption
end LW
namespace L2
open PySem PySem.Spec PyProof.Rows
section
variable {X : Cx} {pins : Pn} {σ : St} {H : Hp} {s : Shared} {a : Addr} {kvs : List (Key × V)} {k : Key} {u r : Value} {d : V} {A : Around} {E : Value → Shared → Prop}
theorem QjJ {Q : Value → Shared → Prop} (I : Inv X pins σ H s) (e : H a = some (.dK kvs)) (ry : RelV (kV k) u) (rd : RelV d r) (hz : kvs.length < sizeLine)
  (h1 : ∀ v, QaP kvs k = some v → ∀ w' s', Inv X pins σ H s' → RelV v w' → Q w' s') (h2 : QaP kvs k = none → ∀ s', Inv X pins σ (upd H a (.dK (QbK kvs k d))) s' → Q r s') :
  wpAny (model X.prog X.w) A (call (.builtin "dict.setdefault") [.ref a, u, r]) Q E s := by
 obtain ⟨z, hd, vs, rel, dd⟩ := QiL I.hok e
 refine call_meetsIn PySem.F.slot_dict_setdefault dd.typeIs PySem.F.entry_dict_setdefault (PySem.F.args_dict_setdefault_3 _ _ _) (PySem.kt_meets_setdefault (Q0 X.prog X.w) a (Qfz ry) hd r) ⟨vs, dd, by rw [← rel.length]; exact z, fun v hv => ?_, fun hn h' dd' hs => ?_⟩
 ·have rv := rel.val k
  rw [hv] at rv
  cases e2 : QaP kvs k with
  | none => rw [e2] at rv; exact rv.elim
  | some x => rw [e2] at rv; exact h1 x e2 v _ (I.tok _) rv
 ·have rv := rel.val k
  rw [hn] at rv
  cases e2 : QaP kvs k with
  | some x => rw [e2] at rv; exact rv.elim
  | none =>
   have hl : (QbK kvs k d).length ≤ sizeLine := by have := Qcs kvs k d; omega
   have he : ∃ q, h'.get? a = some q := let ⟨q, _, _, hq, _⟩ := dd'; ⟨q, hq⟩
   exact h2 e2 _ (QfG I (by rw [e]; exact True.intro) hs he (QiM hl hd (rel.put k rd) dd'))
end
def tDSet2 (td ty tx : TE) : TE := fun σ H Q => td σ H fun x H1 => ∃ a, x = .ref a ∧ IsD H1 a ∧ ty σ H1 fun y H2 => tx σ H2 fun z H3 => ∃ kvs k, H3 a = some (.dK kvs) ∧ y = kV k ∧ kvs.length < sizeLine ∧
 (∀ v, QaP kvs k = some v → Q v H3) ∧ (QaP kvs k = none → Q z (upd H3 a (.dK (QbK kvs k z))))
theorem Qhm {X : Cx} {o e f : Expr} {td ty tx : TE} {apos cpos : Pos} (ho : PE X o td) (he : PE X e ty) (hf : PE X f tx) (m : M2 X o "setdefault" apos e f cpos) : PE X (.Call (.Attribute o "setdefault" apos) [e, f] [] cpos) (tDSet2 td ty tx) := by
 intro pins s σ H Q I h
 refine wpAny_Call_method m.base m.few m.line PySem.F.plainAttrs_dict PySem.F.slot_dict_setdefault PySem.F.type_dict_setdefault (thn (ho pins s σ H _ I h) fun u s1 ⟨x, H1, I1, rx, a, ex, d, q1⟩ => ?_)
 subst ex
 obtain rfl : u = Value.ref a := rx
 obtain ⟨t1, t2, _⟩ := Qiw I1 d
 refine ⟨t1, t2, ?_⟩
 rw [m.trees]
 refine Calls.callWith_builtin rfl (Calls.evalArgs_plain (Calls.spliced_cons (thn (he pins s1 σ H1 _ I1 q1) fun iv s2 ⟨y, H2, I2, ry, q2⟩ =>
  Calls.spliced_cons (thn (hf pins s2 σ H2 _ I2 q2) fun fv s3 ⟨z, H3, I3, rz, kvs, k, e3, ey, hz, q3, q4⟩ => Calls.spliced_nil ?_))))
 subst ey
 exact QjJ I3 e3 ry rz hz (fun v hv w' s4 I4 rw' => ⟨_, H3, I4, rw', q3 v hv⟩) fun hn s4 I4 => ⟨_, _, I4, rz, q4 hn⟩
end L2
namespace LW
open PySem L2
theorem QbO : ∀ {l m : List Int}, l.Nodup → (∀ x ∈ l, x ∈ m) → l.length ≤ m.length
 | [], _, _, _ => Nat.zero_le _
 | x :: l, m, nd, h => by
  obtain ⟨n1, n2⟩ := List.nodup_cons.mp nd
  have hx : x ∈ m := h x List.mem_cons_self
  have := QbO (l := l) (m := m.erase x) n2 fun y hy => (List.mem_erase_of_ne (show y ≠ x from fun e => n1 (by rw [← e]; exact hy))).mpr (h y (List.mem_cons_of_mem _ hy))
  rw [List.length_erase_of_mem hx] at this
  have hp : 0 < m.length := List.length_pos_of_mem hx
  rw [List.length_cons]; omega
inductive Rw where
 | slot (n s : Int) | told (n g : Int) | bes (n : Int) | plain (n h at_ : Int) | pair (n h : Int)
def Rw.nm : Rw → Int
 | .slot n _ => n
 | .told n _ => n
 | .bes n => n
 | .plain n _ _ => n
 | .pair n _ => n
def Rw.vs : Rw → List V
 | .slot n s => [.int n, .str "slot", .int s]
 | .told n g => [.int n, .str "told", .int g]
 | .bes n => [.int n, .str "besides"]
 | .plain n h i => [.int n, .str "plain", .int h, .int i]
 | .pair n h => [.int n, .str "pair", .int h]
theorem Rw.first (r : Rw) : ∃ more, r.vs = .int r.nm :: more := by cases r <;> exact ⟨_, rfl⟩
def isRw (H : Hp) (r : Rw) (v : V) : Prop := ∃ a, v = .ref a ∧ H a = some (.tup r.vs)
theorem isRw.keep {H H' : Hp} {r : Rw} {v : V} (t : Tups H H') (h : isRw H r v) : isRw H' r v := let ⟨a, e, q⟩ := h; ⟨a, e, t _ _ q⟩
def Qkd (H : Hp) (l : Addr) (rows : List Rw) : Prop := ∃ vs, H l = some (.lst vs) ∧ Paired (isRw H) rows vs
structure SS where
 rows : List Rw
 locked : List (Int × List Int)
def SS.names (st : SS) : List Int := st.rows.map Rw.nm
structure SB where
 dx : Addr
 rl : Addr
 ld : Addr
 kd : Addr
 ll : List Addr
def SB.foot (B : SB) (q : Addr) : List Addr := q :: B.ld :: B.kd :: B.rl :: B.ll
def QfW (p : Addr) (B : SB) : List (Str × V) := [("house", .ref p), ("rows", .ref B.rl), ("listed", .ref B.ld), ("locked", .ref B.kd)]
def ZO (rows : List Rw) : List (Key × V) := rows.map fun r => ((Sum.inl r.nm : Key), V.bl true)
def Qby (l : List (Int × List Int)) (al : List Addr) : List (Key × V) := (l.zip al).map fun q => ((Sum.inl q.1.1 : Key), V.ref q.2)
structure SearchAt (CS : Addr) (H : Hp) (q p : Addr) (B : SB) (st : SS) : Prop where
 ob : H q = some (.ins CS B.dx (QfW p B))
 rl : Qkd H B.rl st.rows
 ld : H B.ld = some (.dK (ZO st.rows))
 kd : H B.kd = some (.dK (Qby st.locked B.ll))
 ll : Paired (fun x a => Qhe H x.2 a) st.locked B.ll
 nd : (B.rl :: B.ll).Nodup
 kf : B.ld ≠ B.kd
 un : st.names.Nodup
 lk : (st.locked.map (·.1)).Nodup
structure TSx (K : Fg) (mg : Str → Option Value) (CS : Addr) : Prop where
 cl : Cls K CS
 n_house : NoAttr K CS "house"
 n_rows : NoAttr K CS "rows"
 n_listed : NoAttr K CS "listed"
 n_locked : NoAttr K CS "locked"
 g_search : mg "Search" = some (.ref CS)
section
variable {p : Addr} {B : SB}
theorem Qa7 : (QfW p B).lookup ("house" : Str) = some (V.ref p) := QbQ
theorem Qd0 : (QfW p B).lookup ("rows" : Str) = some (V.ref B.rl) := (Qu (by decide +kernel)).trans QbQ
theorem Qd1 : (QfW p B).lookup ("listed" : Str) = some (V.ref B.ld) := (Qu (by decide +kernel)).trans ((Qu (by decide +kernel)).trans QbQ)
theorem QfU : (QfW p B).lookup ("locked" : Str) = some (V.ref B.kd) := (Qu (by decide +kernel)).trans ((Qu (by decide +kernel)).trans ((Qu (by decide +kernel)).trans QbQ))
theorem ZT {m : Str} (h : ((["house", "rows", "listed", "locked"] : List Str).all fun k => !(m == k)) = true) : (QfW p B).lookup m = none := by
 simp only [List.all_cons, List.all_nil, Bool.and_true, Bool.and_eq_true, Bool.not_eq_true'] at h
 obtain ⟨h1, h2, h3, h4⟩ := h
 exact (Qu h1).trans ((Qu h2).trans ((Qu h3).trans ((Qu h4).trans rfl)))
end
section
variable {CS : Addr} {H H' : Hp} {q p : Addr} {B : SB} {st : SS}
theorem SearchAt.keep (h : SearchAt CS H q p B st) (k : ∀ b ∈ B.foot q, H' b = H b) (t : Tups H H') : SearchAt CS H' q p B st where
 ob := (k q (by simp [SB.foot])).trans h.ob
 rl := let ⟨vs, a, b⟩ := h.rl; ⟨vs, (k _ (by simp [SB.foot])).trans a, QE (fun _ _ _ _ z => z.keep t) b⟩
 ld := (k _ (by simp [SB.foot])).trans h.ld
 kd := (k _ (by simp [SB.foot])).trans h.kd
 ll := QE (fun x a _ ha z => (k _ (by simp [SB.foot, ha])).trans z) h.ll
 nd := h.nd
 kf := h.kf
 un := h.un
 lk := h.lk
theorem SearchAt.there (h : SearchAt CS H q p B st) : ∀ b ∈ B.foot q, ∃ o, H b = some o := fun b hb => by
 have hb : b = q ∨ b = B.ld ∨ b = B.kd ∨ b = B.rl ∨ b ∈ B.ll := by simpa [SB.foot] using hb
 rcases hb with e | e | e | e | e
 ·exact ⟨_, e ▸ h.ob⟩
 ·exact ⟨_, e ▸ h.ld⟩
 ·exact ⟨_, e ▸ h.kd⟩
 ·obtain ⟨vs, z, _⟩ := h.rl; exact ⟨_, e ▸ z⟩
 ·obtain ⟨i, hi⟩ := List.getElem?_of_mem e
  obtain ⟨x, _, z⟩ := pr_getR h.ll hi
  exact ⟨_, z⟩
theorem SearchAt.same (h : SearchAt CS H q p B st) (s : Same H H') : SearchAt CS H' q p B st := h.keep (fun b hb => by
 obtain ⟨o, e⟩ := h.there b hb
 rw [e]; exact s _ _ e) (Tups.of_same s)
theorem SearchAt.new (h : SearchAt CS H q p B st) {a : Addr} {o : HO} (n : H a = none) : SearchAt CS (upd H a o) q p B st := h.same (Same.new n)
theorem SearchAt.out (h : SearchAt CS H q p B st) {a : Addr} (n : H a = none) : a ∉ B.foot q := fun z => by
 obtain ⟨o, e⟩ := h.there a z
 rw [n] at e; cases e
end
def SS.add (st : SS) (r : Rw) : SS := if r.nm ∈ st.names then st else { st with rows := st.rows ++ [r] }
theorem Qb3 (rows : List Rw) (n : Int) : (QaP (ZO rows) (Sum.inl n)).isSome = decide (n ∈ rows.map Rw.nm) := by
 cases e : QaP (ZO rows) (Sum.inl n) with
 | some v =>
  have := QhC e
  rw [ZO, List.map_map] at this
  obtain ⟨r, hr, z⟩ := List.mem_map.mp this
  have z : r.nm = n := Sum.inl.inj z
  simp only [Option.isSome_some]
  exact (decide_eq_true (List.mem_map.mpr ⟨r, hr, z⟩)).symm
 | none =>
  have := Qi9 e
  refine (decide_eq_false fun m => this ?_).symm
  obtain ⟨r, hr, z⟩ := List.mem_map.mp m
  rw [ZO, List.map_map]
  exact List.mem_map.mpr ⟨r, hr, by rw [← z]; rfl⟩
def Qb1 (CS : Addr) : Sp := fun vs H Q _ => ∃ (q p r : Addr) (B : SB) (st : SS) (row : Rw), vs = [.ref q, .ref r] ∧ SearchAt CS H q p B st ∧ H r = some (.tup row.vs) ∧ st.rows.length < 1000 ∧ ∀ H', SearchAt CS H' q p B (st.add row) → Frame (B.foot q) H H' → Tups H H' → Q .non H'
theorem SearchAt.added {CS : Addr} {H : Hp} {q p r : Addr} {B : SB} {st : SS} {row : Rw} {vs : List V} (h : SearchAt CS H q p B st) (hr : H r = some (.tup row.vs)) (n : row.nm ∉ st.names) (hv : H B.rl = some (.lst vs)) (pr : Paired (isRw H) st.rows vs) :
  SearchAt CS (upd (upd H B.ld (.dK (QbK (ZO st.rows) (Sum.inl row.nm) (.bl true)))) B.rl (.lst (vs ++ [.ref r]))) q p B { st with rows := st.rows ++ [row] } := by
 have q1 : q ≠ B.ld := QB h.ob h.ld (by intro z; cases z)
 have q2 : q ≠ B.rl := QB h.ob hv (by intro z; cases z)
 have k2 : B.kd ≠ B.rl := QB h.kd hv (by intro z; cases z)
 have l2 : B.ld ≠ B.rl := QB h.ld hv (by intro z; cases z)
 obtain ⟨n1, n2⟩ := List.nodup_cons.mp h.nd
 have t1 : Tups H (upd H B.ld (.dK (QbK (ZO st.rows) (Sum.inl row.nm) (.bl true)))) := Tups.upd h.ld (by intro xs z; cases z)
 have hv1 : (upd H B.ld (.dK (QbK (ZO st.rows) (Sum.inl row.nm) (.bl true)))) B.rl = some (.lst vs) := by rw [Qf l2.symm]; exact hv
 have t2 := t1.trans (Tups.upd (o := .lst (vs ++ [.ref r])) hv1 (by intro xs z; cases z))
 have hn : QaP (ZO st.rows) (Sum.inl row.nm) = none := by
  have := Qb3 st.rows row.nm
  rw [decide_eq_false (show ¬ row.nm ∈ st.rows.map Rw.nm from n)] at this
  cases e : QaP (ZO st.rows) (Sum.inl row.nm) with
  | none => rfl
  | some v => rw [e] at this; cases this
 refine ⟨?_, ⟨_, Qb, Qci (QE (fun _ _ _ _ z => z.keep t2) pr) (.cons ⟨r, rfl, t2 _ _ hr⟩ .nil)⟩, ?_, ?_, ?_, h.nd, h.kf, ?_, h.lk⟩
 ·rw [Qf q2, Qf q1]; exact h.ob
 ·rw [Qf l2, Qb, Qbf _ hn]
  show _ = some (HO.dK (ZO (st.rows ++ [row])))
  rw [ZO, ZO, List.map_append]; rfl
 ·rw [Qf k2, Qf h.kf.symm]; exact h.kd
 ·refine QE (fun x a _ ha z => ?_) h.ll
  have e1 : a ≠ B.rl := fun e => n1 (e ▸ ha)
  have e2 : a ≠ B.ld := QB z h.ld (by intro w; cases w)
  show upd _ _ _ a = _
  rw [Qf e1, Qf e2]; exact z
 ·show ((st.rows ++ [row]).map Rw.nm).Nodup
  rw [List.map_append]
  exact QcY h.un n
structure HS.Ok (S : HS) : Prop where
 row : ∀ b ∈ S.boxes, ∀ t ∈ b.row, t.In (names S)
 pair : ∀ b ∈ S.boxes, b.kind = "pair" → b.row.length = 2
 slot : ∀ t ∈ S.slots, t.In (names S)
 told : ∀ xs ∈ S.told, ∀ n ∈ xs, n ∈ names S
 few : S.boxes.length ≤ 900
 eight : ∀ b ∈ S.boxes, b.row.length ≤ 900
structure SH (C CS : Addr) (H : Hp) (q p : Addr) (A : HA) (S : HS) (B : SB) (st : SS) : Prop where
 hs : SearchAt CS H q p B st
 hh : HouseAt C H p A S
 ap : ∀ b ∈ A.foot p, b ∉ B.foot q
 ins : ∀ n ∈ st.names, n ∈ names S
 ok : S.Ok
structure UpS (C CS : Addr) (H : Hp) (q p : Addr) (A : HA) (S : HS) (B : SB) (H' : Hp) (B' : SB) (st' : SS) : Prop where
 sh : SH C CS H' q p A S B' st'
 fr : Frame (B.foot q) H H'
 tu : Tups H H'
 gr : Grown (B.foot q) (B'.foot q) H
def OutH (C CS : Addr) (H : Hp) (q p : Addr) (A : HA) (S : HS) (B : SB) (st' : SS) (Q : V → Hp → Prop) (v : V) : Prop := ∀ B' H', UpS C CS H q p A S B H' B' st' → Q v H'
section
variable {C CS : Addr} {H H1 H2 : Hp} {q p l : Addr} {A : HA} {S : HS} {B B1 B2 : SB} {st st1 st2 : SS} {o : HO}
theorem SH.few (h : SH C CS H q p A S B st) : st.rows.length ≤ 900 := by
 have := QbO h.hs.un h.ins
 have e : st.names.length = st.rows.length := by simp [SS.names]
 have e2 : (names S).length = S.boxes.length := by simp [names]
 have := h.ok.few
 omega
theorem SH.house (h : SH C CS H q p A S B st) (fr : Frame (B.foot q) H H1) (tu : Tups H H1) : HouseAt C H1 p A S := h.hh.keep (fun b hb => by
 obtain ⟨u, e⟩ := h.hh.there b hb
 rw [e]; exact fr b u e (h.ap b hb)) tu
theorem UpS.refl (h : SH C CS H q p A S B st) : UpS C CS H q p A S B H B st := ⟨h, Frame.refl _ _, Tups.refl _, Grown.refl _ _⟩
theorem UpS.step (u : UpS C CS H q p A S B H1 B1 st1) (h : SearchAt CS H2 q p B2 st2) (fr : Frame (B1.foot q) H1 H2) (tu : Tups H1 H2) (gr : Grown (B1.foot q) (B2.foot q) H1) (ins : ∀ n ∈ st2.names, n ∈ names S) : UpS C CS H q p A S B H2 B2 st2 where
 sh := ⟨h, u.sh.house fr tu, (fun b hb m => by
  rcases gr b m with z | z
  ·exact u.sh.ap b hb z
  ·obtain ⟨o, e⟩ := u.sh.hh.there b hb
   rw [z] at e
   exact nomatch e), ins, u.sh.ok⟩
 fr := fun b o e n => fr b o (u.fr b o e n) (u.gr.out e n)
 tu := u.tu.trans tu
 gr := fun b hb => by
  rcases gr b hb with z | z
  ·exact u.gr b z
  ·by_cases m : b ∈ B.foot q
   ·exact .inl m
   ·right
    cases e : H b with
    | none => rfl
    | some o => rw [u.fr b o e m] at z; cases z
theorem UpS.trans (u : UpS C CS H q p A S B H1 B1 st1) (v : UpS C CS H1 q p A S B1 H2 B2 st2) : UpS C CS H q p A S B H2 B2 st2 := u.step v.sh.hs v.fr v.tu v.gr v.sh.ins
theorem UpS.new (u : UpS C CS H q p A S B H1 B1 st1) (n : H1 l = none) : UpS C CS H q p A S B (upd H1 l o) B1 st1 :=
 u.step (u.sh.hs.new n) (fun b o e _ => Zt e n) (Tups.new n) (Grown.refl _ _) u.sh.ins
theorem UpS.keep (u : UpS C CS H q p A S B H1 B1 st1) {b : Addr} {o : HO} (e : H b = some o) (n : b ∉ B.foot q) : H1 b = some o ∧ b ∉ B1.foot q := ⟨u.fr b o e n, u.gr.out e n⟩
def OutB (C CS : Addr) (H : Hp) (q p : Addr) (A : HA) (S : HS) (B : SB) (st' : SS) (Q : V → Hp → Prop) (v : V) : Prop := ∀ H', UpS C CS H q p A S B H' B st' → Q v H'
theorem UpS.outB {Q : V → Hp → Prop} {v : V} (u : UpS C CS H q p A S B H1 B st1) (k : OutB C CS H q p A S B st1 Q v) : Q v H1 := k H1 u
theorem UpS.out {Q : V → Hp → Prop} {v : V} (u : UpS C CS H q p A S B H1 B1 st1) (k : OutH C CS H q p A S B st1 Q v) : Q v H1 := k B1 H1 u
theorem SS.add_ins {r : Rw} (h : ∀ n ∈ st.names, n ∈ LW.names S) (hr : r.nm ∈ LW.names S) : ∀ n ∈ (st.add r).names, n ∈ LW.names S := fun n hn => by
 unfold SS.add at hn
 split at hn
 ·exact h n hn
 ·have hn : n ∈ (st.rows ++ [r]).map Rw.nm := hn
  rw [List.map_append] at hn
  rcases List.mem_append.mp hn with z | z
  ·exact h n z
  ·rw [List.mem_singleton.mp z]; exact hr
end
def SS.addT (st : SS) (t : T) (mk : Int → Rw) : SS := match t with
 | .box n => st.add (mk n)
 | _ => st
def addTs (mk : Int → Int → Rw) (st : SS) (ts : List T) : SS := (ts.zipIdx).foldl (fun st x => st.addT x.1 fun n => mk n x.2) st
theorem Qda (mk : Int → Int → Rw) (st : SS) (ts : List T) (t : T) : addTs mk st (ts ++ [t]) = (addTs mk st ts).addT t fun n => mk n ts.length := by
 unfold addTs
 rw [List.zipIdx_append, List.foldl_append]
 simp
def Qb0 (C CS : Addr) : Sp := fun vs H Q _ => ∃ (q p : Addr) (A : HA) (S : HS) (B : SB) (st : SS) (i : Nat) (b : Box) (t : T), vs = [.ref q, .int b.name] ∧ SH C CS H q p A S B st ∧ S.boxes[i]? = some b ∧ b.row[1]? = some t ∧ OutB C CS H q p A S B (st.addT t fun n => .pair n b.name) Q .non
def QdZ (C CS : Addr) : Sp := fun vs H Q _ => ∃ (q p : Addr) (A : HA) (S : HS) (B : SB) (st : SS) (i : Nat) (b : Box), vs = [.ref q, .int b.name] ∧ SH C CS H q p A S B st ∧ S.boxes[i]? = some b ∧ OutB C CS H q p A S B (addTs (fun n at_ => .plain n b.name at_) st b.row) Q .non
section
variable {X : Cx} {n : Nat} {x m : Str} {ps : List Str} {sp : Sp} {dss : List (List Value)} {e o : Expr} {es : List Expr} {t : TA} {ta : TE} {p pos apos : Pos} {C : Addr}
theorem qc (D : DefOk X.prog X.w X.K X.mg X.base n x ps sp ([] :: dss)) (hr : Room n X.A) (ha : PA X (e :: es) t) (hg : Gl X x := by rfl) (hdb : (x == ("__debug__" : Str)) = false := by decide) (he : starEach (e :: es) X.env = (false, eval e X.env) :: starEach es X.env := by rfl) (hpl : (backTo pos (starEach es X.env)).any (·.1) = false := by rfl) :
  PE X (.Call (.Name x p) (e :: es) [] pos) (tCall sp [] E0 t) := let ⟨_, _, a, k, F, b⟩ := D; Qid F hr hg a k (b [] List.mem_cons_self) .nil QgC ha hdb he hpl
theorem qm {pl : Sem Bool} (M : MethOk X.prog X.w X.K X.mg X.base C n m ps sp ([] :: dss)) (he : PE X o ta) (c : Cls X.K C) (hr : Room n X.A) (ha : PA X (e :: es) t)
  (hst : starEach (e :: es) X.env = (false, eval e X.env) :: starEach es X.env := by rfl) (hpl : (backTo pos (starEach es X.env)).any (·.1) = false := by rfl)
  (ht : eval (.Call (.Attribute o m apos) (e :: es) [] pos) X.env = (do
   let ov ← eval o X.env
   standAt apos.atName
   let (f, first) ← holding [ov] (getMethod ov m pl)
   callWith pos f first (backTo pos (starEach (e :: es) X.env)) (backToKw pos (keywordEach [] X.env))) := by rfl) :
  PE X (.Call (.Attribute o m apos) (e :: es) [] pos) (QhI C m sp [] E0 ta t) := let ⟨_, _, a, F, b⟩ := M; Qib he c a F hr (b [] List.mem_cons_self) .nil QgC ha hst hpl ht
theorem qm0 {pl : Sem Bool} (M : MethOk X.prog X.w X.K X.mg X.base C n m ps sp ([] :: dss)) (he : PE X o ta) (c : Cls X.K C) (hr : Room n X.A)
  (ht : eval (.Call (.Attribute o m apos) [] [] pos) X.env = (do
   let ov ← eval o X.env
   standAt apos.atName
   let (f, first) ← holding [ov] (getMethod ov m pl)
   callWith pos f first (backTo pos (starEach [] X.env)) (backToKw pos (keywordEach [] X.env))) := by rfl) :
  PE X (.Call (.Attribute o m apos) [] [] pos) (QhI C m sp [] E0 ta QhH) := let ⟨_, _, a, F, b⟩ := M; Qjo he c a F hr (b [] List.mem_cons_self) .nil QgC ht
end
end LW
namespace L2
open PySem
theorem fsk {N P : List Str} {sc : Scope} (h1 : sc.kind = .function := by rfl) (h2 : sc.isCoroutine = false := by rfl) (h3 : sc.isGenerator = false := by rfl) (h4 : N.Nodup := by decide +kernel) (h5 : N.take P.length = P := by rfl) (h6 : ∀ x ∈ P, sc.names.lookup x = some .local ∨ sc.names.lookup x = some .cell := by decide +kernel) (h7 : ∀ y ∈ sc.names, y.2 ≠ .free := by decide +kernel) : Qj N P sc := ⟨h1, h2, h3, h4, h5, h6, h7⟩
theorem bsk {osc sc : Scope} {oN N : List Str} {x : Str} {fr : List Nat} (h1 : sc.kind = .function := by rfl) (h2 : ∀ y ∈ sc.names, y.2 ≠ .cell := by decide +kernel) (h3 : ∀ y ∈ sc.names, y.2 = .local → sc.names.lookup y.1 = some .local := by decide +kernel) (h4 : ∀ y ∈ sc.names, y.2 = .free → osc.names.lookup y.1 = some .cell := by decide +kernel) (h5 : sc.names.lookup x = some .local := by rfl) (h6 : (x :: N).Nodup := by decide +kernel) (h7 : fr.map (fun i => oN[i]?) = N.map some := by rfl) (h8 : ∀ y ∈ N, sc.names.lookup y = some .free := by decide +kernel) : QD osc oN sc x N fr := ⟨h1, h2, h3, h4, h5, h6, h7, h8⟩
end L2
namespace LW
open PySem L2
def top (i : Nat) : Stmt := PySem.Challenge.pw_lastword_k11_whole_each_word_once.main.body.getD i (.Pass ⟨0, 0, 0, 0⟩)
abbrev Qbd : Stmt := top 2
theorem QeH : Qj ["name"] ["name"] (Qg Qbd) := fsk
abbrev QbJ : Stmt := top 3
theorem Qfi : Qj ["thing"] ["thing"] (Qg QbJ) := fsk
abbrev Qcn : Stmt := top 4
theorem Qdf : Qj ["thing", "new_names", "name"] ["thing", "new_names"] (Qg Qcn) := fsk
abbrev Qa0 : Stmt := top 6
theorem Qgw : Qj ["house", "besides"] ["house", "besides"] (Qg Qa0) := fsk
abbrev Qeb : Stmt := top 7
theorem QeW : Qj ["house", "besides", "search"] ["house", "besides"] (Qg Qeb) := fsk
abbrev Qaw : Stmt := QA (top 8) 0
theorem Qdk : Qj ["self", "house"] ["self", "house"] (Qg Qaw) := fsk
abbrev ZX : Stmt := QA (top 8) 1
theorem Qcl : Qj ["self", "row"] ["self", "row"] (Qg ZX) := fsk
abbrev ZC : Stmt := QA (top 8) 2
theorem Zj : Qj ["self", "slot", "thing", "name"] ["self"] (Qg ZC) := fsk
abbrev ZJ : Stmt := QA (top 8) 3
theorem ZA : Qj ["self", "guard", "names", "name"] ["self"] (Qg ZJ) := fsk
abbrev Zk : Stmt := QA (top 8) 4
theorem Ze : Qj ["self", "at"] ["self"] (Qg Zk) := fsk
abbrev Z5 : Stmt := QA (top 8) 5
theorem ZV : Qj ["self", "name", "holder", "kind"] ["self", "name"] (Qg Z5) := fsk
abbrev Zl : Stmt := QA (top 8) 6
theorem Zf : Qj ["self", "holder", "at", "name"] ["self", "holder"] (Qg Zl) := fsk
abbrev Zg : Stmt := QA (top 8) 7
theorem ZU : Qj ["self", "holder", "key"] ["self", "holder"] (Qg Zg) := fsk
abbrev ZB : Stmt := QA (top 8) 8
theorem Qad : Qj ["self", "holder", "name"] ["self", "holder"] (Qg ZB) := fsk
abbrev Qea : Stmt := top 10
theorem Z4 : Qj ["house", "besides", "held_ahead", "weak_broken", "told", "held_anew", "pairs_broken", "gone"] ["house", "besides"] (Qg Qea) := fsk
abbrev QY : Stmt := top 11
theorem ZW : Qj ["house", "held", "weak", "broken", "name"] ["house", "held"] (Qg QY) := fsk
abbrev QaC : Stmt := top 12
theorem ZH : Qj ["house", "held", "told", "guard", "name"] ["house", "held"] (Qg QaC) := fsk
abbrev QN : Stmt := top 13
theorem ZI : Qj ["house", "held", "pairs", "broken", "name"] ["house", "held"] (Qg QN) := fsk
abbrev ZM : Stmt := top 14
theorem Qal : Qj ["house", "name", "held", "first"] ["house", "name", "held"] (Qg ZM) := fsk
abbrev Zp : Stmt := top 15
theorem Qai : Qj ["house", "held", "gone", "name"] ["house", "held"] (Qg Zp) := fsk
abbrev QX : Stmt := QA (top 28) 0
theorem Qd6 : Qj ["self", "room", "slots"] ["self", "room", "slots"] (Qg QX) := fsk
abbrev QaT : Stmt := QA (top 28) 1
theorem Qd4 : Qj ["self", "kind", "size", "slot"] ["self", "kind", "size", "slot"] (Qg QaT) := fsk
abbrev Qaz : Stmt := QA (top 28) 2
theorem Qdn : Qj ["self"] ["self"] (Qg Qaz) := fsk
abbrev QaU : Stmt := QA (top 28) 3
theorem Qd5 : Qj ["self", "name"] ["self", "name"] (Qg QaU) := fsk
abbrev QaS : Stmt := QA (top 28) 4
theorem Qd3 : Qj ["self", "name"] ["self", "name"] (Qg QaS) := fsk
abbrev Qa8 : Stmt := QA (top 28) 5
theorem QeF : Qj ["self", "name", "at", "thing"] ["self", "name", "at", "thing"] (Qg Qa8) := fsk
abbrev QaB : Stmt := QA (top 28) 6
theorem Qdp : Qj ["self", "name", "at"] ["self", "name", "at"] (Qg QaB) := fsk
abbrev QaV : Stmt := QA (top 28) 8
theorem Qd7 : Qj ["self", "slot", "thing"] ["self", "slot", "thing"] (Qg QaV) := fsk
abbrev QaW : Stmt := QA (top 28) 9
theorem Qd8 : Qj ["self", "slot"] ["self", "slot"] (Qg QaW) := fsk
abbrev Qay : Stmt := QA (top 28) 10
theorem Qdm : Qj ["self", "guard", "name"] ["self", "guard", "name"] (Qg Qay) := fsk
abbrev QaA : Stmt := QA (top 28) 11
theorem Qdo : Qj ["self", "guard", "name"] ["self", "guard", "name"] (Qg QaA) := fsk
abbrev QaR : Stmt := QA (top 28) 12
theorem QbC : Qj ["self", "guard", "slot", "name"] ["self", "guard", "slot"] (Qg QaR) := fsk
abbrev Z6 : Stmt := QA (top 28) 13
theorem Qcz : Qj ["self", "guard"] ["self", "guard"] (Qg Z6) := fsk
abbrev Qax : Stmt := QA (top 28) 14
theorem Qdl : Qj ["self", "guard"] ["self", "guard"] (Qg Qax) := fsk
abbrev ZY : Stmt := QA (top 28) 15
theorem Qcm : Qj ["self", "count"] ["self", "count"] (Qg ZY) := fsk
abbrev ZK : Stmt := QA (top 28) 16
theorem Qb7 : Qj ["self", "count", "besides"] ["self", "count", "besides"] (Qg ZK) := fsk
abbrev QM : Stmt := QA (top 28) 17
theorem Qah : Qj ["self", "draft", "slot", "new_names", "name", "row"] ["self", "draft", "slot"] (Qg QM) := fsk
abbrev QaQ : Stmt := QA (top 28) 18
theorem Qd2 : Qj ["self", "guard", "name"] ["self", "guard", "name"] (Qg QaQ) := fsk
abbrev QaX : Stmt := QA (top 28) 19
theorem Qd9 : Qj ["self", "name"] ["self", "name"] (Qg QaX) := fsk
abbrev ZD : Stmt := QA (top 28) 20
theorem QbD : Qj ["self", "slot"] ["self", "slot"] (Qg ZD) := fsk
abbrev Zn : Stmt := QA (top 28) 21
theorem Qbr : Qj ["self", "guard"] ["self", "guard"] (Qg Zn) := fsk
abbrev ZL : Stmt := QA (top 28) 22
theorem Qb8 : Qj ["self", "name"] ["self", "name"] (Qg ZL) := fsk
abbrev Zm : Stmt := QA (top 28) 23
theorem Z3 : Qj ["self", "thing", "name"] ["self", "thing"] (Qg Zm) := fsk
abbrev Zo : Stmt := QA (top 28) 24
theorem Qbs : Qj ["self", "name", "at"] ["self", "name", "at"] (Qg Zo) := fsk
abbrev QaD : Stmt := top 30
theorem Qdq : Qj ["script", "k"] ["script", "k"] (Qg QaD) := fsk
abbrev QbI : Stmt := top 31
theorem Qfh : Qj ["script", "k"] ["script", "k"] (Qg QbI) := fsk
abbrev QaY : Stmt := top 32
theorem QbE : Qj ["script", "k", "cell"] ["script", "k"] (Qg QaY) := fsk
abbrev Qa9 : Stmt := top 33
theorem Qcf : Qj ["script", "k", "many", "cell"] ["script", "k", "many"] (Qg Qa9) := fsk
abbrev ZZ : Stmt := top 34
theorem Zd : Qj ["script", "many", "kinds", "rows", "name", "cell", "size"] ["script", "many"] (Qg ZZ) := fsk
abbrev QbG : Stmt := top 35
theorem QcA : Qj ["script", "cell"] ["script"] (Qg QbG) := fsk
abbrev Qba : Stmt := top 36
theorem QW : Qj ["script", "count", "many", "slots", "k", "cell", "thing"] ["script", "count", "many"] (Qg Qba) := fsk
abbrev Qbb : Stmt := top 37
theorem Zc : Qj ["kinds", "rows", "slots", "extra", "house", "name", "at", "thing", "slot"] ["kinds", "rows", "slots", "extra"] (Qg Qbb) := fsk
abbrev Z0 : Stmt := top 38
theorem QeG : Qj ["things"] ["things"] (Qg Z0) := fsk
abbrev Qbc : Stmt := top 39
theorem Qcg : Qj ["kinds", "rows", "held", "name", "key"] ["kinds", "rows", "held", "name"] (Qg Qbc) := fsk
abbrev QbH : Stmt := top 40
theorem QU : Qj ["kinds", "rows", "starts", "held", "name", "grown", "other"] ["kinds", "rows", "starts"] (Qg QbH) := fsk
abbrev Qae : Stmt := top 42
theorem Qao : Qj ["house", "kinds", "rows", "name"] ["house"] (Qg Qae) := fsk
abbrev Q4 : Stmt := top 43
theorem QT : Qj ["house", "found", "starts", "guard"] ["house"] (Qg Q4) := fsk
abbrev Z7 : Stmt := top 44
theorem QaK : Qj ["words", "held", "wait", "due", "word"] ["words", "held", "wait", "due"] (Qg Z7) := fsk
abbrev QbF : Stmt := top 45
theorem Q8 : Qj ["script", "k", "house", "wait", "due", "cell", "names", "word", "way", "held"] ["script", "k", "house", "wait", "due"] (Qg QbF) := fsk
abbrev QaE : Stmt := top 46
theorem Qap : Qj ["script", "many", "made", "house", "wait", "due", "k", "guard", "waits"] ["script"] (Qg QaE) := fsk
section
variable {C : Addr}
theorem QbN {f : Addr} (F : Fun K "check_slot" "House.check_slot" ZD f fd) (T : TX K mg C)  :
  FnOk P w K mg base CX0 (n + 1) f fd ["self", "slot"] (Qav C) := by
 refine F.ok QbD (by rintro _ _ _ _ ⟨_, _, _, _, rfl, _⟩; rfl) fun _ _ _ s H vs Q E hr h => ?_
 obtain ⟨p, A', S, i, rfl, hh, h0, h1, k⟩ := h
 have hu := QC hr
 refine ⟨_, (Qh (QZ (PW.pt (Qfj (Qp Qii (pv 1) Qi (QF _)) (Qec (Qp QkD (pv 1) (Qy Qt (by rfl) T.g_len PySem.boot_len (Qa (Qw (pv 0) rfl) Qe)) (QF _))))) (Qh Qbg) Qn)), ?_⟩
 obtain ⟨ws, hs, ht⟩ := hh.sl
 refine ⟨_, rfl, _, _, rfl, rfl, _, rfl, ?_⟩
 refine QkT (by omega) ?_
 refine ⟨_, rfl, _, rfl, p, C, A'.dx, _, _, rfl, hh.ob, T.cl, T.n_slots, Qb5, A'.sl, ws, rfl, .inl (SqL.of hs), _, _, rfl, rfl, _, rfl, ?_⟩
 refine QkT (by rw [← pr_len ht]; omega) ?_
 exact k
theorem Qbw {f : Addr} (F : Fun K "check_guard" "House.check_guard" Zn f fd) (T : TX K mg C)  :
  FnOk P w K mg base CX0 (n + 1) f fd ["self", "guard"] (ZP C) := by
 refine F.ok Qbr (by rintro _ _ _ _ ⟨_, _, rfl, _⟩; rfl) fun _ _ _ s H vs Q E hr h => ?_
 obtain ⟨p, i, rfl, h0, h1, k⟩ := h
 have hu := QC hr
 obtain ⟨tG, htG⟩ := T.g_guards
 refine ⟨_, (Qh (QZ (PW.pt (Qfj (Qp Qii (pv 1) Qi (QF _)) (Qec (Qp QkD (pv 1) (QgB (v := .int 4) (by rfl) htG ⟨tG, rfl⟩) (QF _))))) (Qh Qbg) Qn)), ?_⟩
 refine ⟨_, rfl, _, _, rfl, rfl, _, rfl, ?_⟩
 refine QkT (by omega) ?_
 refine ⟨_, rfl, _, _, rfl, rfl, _, rfl, ?_⟩
 refine QkT (by omega) ?_
 exact k
theorem Qcb {f : Addr} (F : Fun K "check_box" "House.check_box" ZL f fd) (T : TX K mg C)  :
  FnOk P w K mg base CX0 (n + 1) f fd ["self", "name"] (Zu C) := by
 refine F.ok Qb8 (by rintro _ _ _ _ ⟨_, _, _, _, rfl, _⟩; rfl) fun _ _ _ s H vs Q E hr h => ?_
 obtain ⟨p, A', S, n, rfl, hh, hn, k⟩ := h
 have hu := QC hr
 refine ⟨_, (Qh (QZ (QaL (Qef hu (pv 1) (Qw (pv 0) rfl))) (Qh Qbg) Qn)), ?_⟩
 obtain ⟨b, hb, e⟩ := List.mem_map.mp hn
 obtain ⟨i, hi⟩ := List.getElem?_of_mem hb
 have hv := hh.kindAt hi
 rw [e] at hv
 refine ⟨_, rfl, _, rfl, p, C, A'.dx, _, _, rfl, hh.ob, T.cl, T.n_kinds, Qb6, A'.kd, _, rfl, DGet.k (k := Sum.inl n) hh.kd, _, rfl, ?_⟩
 rw [hv]
 exact Qbz k
theorem Qbx {f : Addr} (F : Fun K "check_field" "House.check_field" Zo f fd) (T : TX K mg C)  :
  FnOk P w K mg base CX0 (n + 1) f fd ["self", "name", "at"] (QbB C) := by
 refine F.ok Qbs (by rintro _ _ _ _ ⟨_, _, _, _, _, _, rfl, _⟩; rfl) fun _ _ _ s H vs Q E hr h => ?_
 obtain ⟨p, A', S, i, b, at_, rfl, hh, hi, h0, h1, k⟩ := h
 have hu := QC hr
 refine ⟨_, (Qh (QZ (PW.pt (Qfj (Qp Qii (pv 2) Qi (QF _)) (Qec (Qp QkD (pv 2) (Qy Qt (by rfl) T.g_len PySem.boot_len (Qa (Z9 hu (Qw (pv 0) rfl) (pv 1) (fun _ _ => rfl)) Qe)) (QF _))))) (Qh Qbg) Qn)), ?_⟩
 obtain ⟨a, ws, ha, hw, ht, hv⟩ := hh.rowAt hi
 refine ⟨_, rfl, _, _, rfl, rfl, _, rfl, ?_⟩
 refine QkT (by omega) ?_
 refine ⟨_, rfl, _, rfl, p, C, A'.dx, _, _, rfl, hh.ob, T.cl, T.n_fields, Qa3, _, rfl, A'.fd, .ref a, rfl, ?_, a, ws, rfl, .inl (SqL.of hw), _, _, rfl, rfl, _, rfl, ?_⟩
 ·rw [← hv]; exact DGet.k (k := Sum.inl b.name) hh.fd
 refine QkT (by rw [← pr_len ht]; omega) ?_
 exact k
theorem Qdv {f : Addr} (F : Fun K "names" "House.names" Qaz f fd) (T : TX K mg C)  :
  FnOk P w K mg base CX0 (n + 1) f fd ["self"] (QdU C) := by
 refine F.ok Qdn (by rintro _ _ _ _ ⟨_, _, _, rfl, _⟩; rfl) fun _ _ _ s H vs Q E hr h => ?_
 obtain ⟨p, A', S, rfl, hh, h64, k⟩ := h
 have hu := QC hr
 refine ⟨_, (Qh (Qs (Qy (QbU hr.hd) (by rfl) T.g_sorted PyProof.Rows.boot_sorted (Qa (Qw (pv 0) rfl) Qe)))), ?_⟩
 refine ⟨_, rfl, p, C, A'.dx, _, _, rfl, hh.ob, T.cl, T.n_kinds, Qb6, A'.kd, _, names S, rfl, hh.kd, Qaa _, by simpa [names] using h64, fun l ns' hl hp hs => ?_⟩
 rw [QdG hp hs hh.asc]
 exact k l hl
theorem Qek {f : Addr} (F : Fun K "kind" "House.kind" QaU f fd) (T : TX K mg C) (M1_ : MethOk P w K mg base C n "check_box" ["self", "name"] (Zu C) [[]]) :
  FnOk P w K mg base CX0 (n + 1) f fd ["self", "name"] (QfR C) := by
 refine F.ok Qd5 (by rintro _ _ _ _ ⟨_, _, _, _, _, rfl, _⟩; rfl) fun _ _ _ s H vs Q E hr h => ?_
 obtain ⟨p, A', S, i, b, rfl, hh, hi, k⟩ := h
 have hu := QC hr
 refine ⟨_, (Qc (Qk (qm M1_ (pv 0) T.cl hr (Qa (pv 1) Qe)))
  (Qh (Qs (Z9 hu (Qw (pv 0) rfl) (pv 1) (fun _ _ => rfl))))), ?_⟩
 refine ⟨_, rfl, p, A'.dx, _, rfl, hh.ob, Ql, _, rfl, p, A', S, b.name, rfl, hh, QdJ hi, ?_⟩
 refine ⟨_, rfl, p, C, A'.dx, _, _, rfl, hh.ob, T.cl, T.n_kinds, Qb6, _, rfl, A'.kd, .str b.kind, rfl, ?_, k⟩
 rw [← hh.kindAt hi]
 exact DGet.k (k := Sum.inl b.name) hh.kd
theorem Qei {f : Addr} (F : Fun K "size" "House.size" QaS f fd) (T : TX K mg C) (M1_ : MethOk P w K mg base C n "check_box" ["self", "name"] (Zu C) [[]]) :
  FnOk P w K mg base CX0 (n + 1) f fd ["self", "name"] (QhR C) := by
 refine F.ok Qd3 (by rintro _ _ _ _ ⟨_, _, _, _, _, rfl, _⟩; rfl) fun _ _ _ s H vs Q E hr h => ?_
 obtain ⟨p, A', S, i, b, rfl, hh, hi, k⟩ := h
 have hu := QC hr
 refine ⟨_, (Qc (Qk (qm M1_ (pv 0) T.cl hr (Qa (pv 1) Qe)))
  (Qh (Qs (Qy Qt (by rfl) T.g_len PySem.boot_len (Qa (Z9 hu (Qw (pv 0) rfl) (pv 1) (fun _ _ => rfl)) Qe))))), ?_⟩
 obtain ⟨a, ws, ha, hw, ht, hv⟩ := hh.rowAt hi
 refine ⟨_, rfl, p, A'.dx, _, rfl, hh.ob, Ql, _, rfl, p, A', S, b.name, rfl, hh, QdJ hi, ?_⟩
 refine ⟨_, rfl, p, C, A'.dx, _, _, rfl, hh.ob, T.cl, T.n_fields, Qa3, _, rfl, A'.fd, .ref a, rfl, ?_, a, ws, rfl, .inl (SqL.of hw), ?_⟩
 ·rw [← hv]; exact DGet.k (k := Sum.inl b.name) hh.fd
 ·rw [← pr_len ht]; exact k
theorem Qdx {f : Addr} (F : Fun K "field" "House.field" QaB f fd) (T : TX K mg C) (M1_ : MethOk P w K mg base C n "check_box" ["self", "name"] (Zu C) [[]])
  (M2_ : MethOk P w K mg base C n "check_field" ["self", "name", "at"] (QbB C) [[]]) :
  FnOk P w K mg base CX0 (n + 1) f fd ["self", "name", "at"] (QcU C) := by
 refine F.ok Qdp (by rintro _ _ _ _ ⟨_, _, _, _, _, _, _, rfl, _⟩; rfl) fun _ _ _ s H vs Q E hr h => ?_
 obtain ⟨p, A', S, i, b, j, t, rfl, hh, hi, hj, k⟩ := h
 have hu := QC hr
 refine ⟨_, (Qc (Qk (qm M1_ (pv 0) T.cl hr (Qa (pv 1) Qe)))
  (Qc (Qk (qm M2_ (pv 0) T.cl hr (Qa (pv 1) (Qa (pv 2) Qe))))
  (Qh (Qs (QG QI (Z9 hu (Qw (pv 0) rfl) (pv 1) (fun _ _ => rfl)) (pv 2) (fun _ _ => rfl)))))), ?_⟩
 obtain ⟨a, ws, ha, hw, ht, hv⟩ := hh.rowAt hi
 obtain ⟨v, hv2, tv⟩ := Q6 ht hj
 have hlt := (List.getElem?_eq_some_iff.mp hj).1
 refine ⟨_, rfl, p, A'.dx, _, rfl, hh.ob, Ql, _, rfl, p, A', S, b.name, rfl, hh, QdJ hi, ?_⟩
 refine ⟨_, rfl, p, A'.dx, _, rfl, hh.ob, Ql, _, rfl, _, rfl, p, A', S, i, b, j, rfl, hh, hi, by omega, by omega, ?_⟩
 refine ⟨_, rfl, p, C, A'.dx, _, _, rfl, hh.ob, T.cl, T.n_fields, Qa3, _, rfl, A'.fd, .ref a, rfl, ?_, _, rfl, a, ws, j, v, rfl, rfl, SqL.of hw, Zh hv2, k v tv⟩
 rw [← hv]; exact DGet.k (k := Sum.inl b.name) hh.fd
theorem Qen {f : Addr} (F : Fun K "held" "House.held" QaW f fd) (T : TX K mg C) (M1_ : MethOk P w K mg base C n "check_slot" ["self", "slot"] (Qav C) [[]]) :
  FnOk P w K mg base CX0 (n + 1) f fd ["self", "slot"] (QjV C) := by
 refine F.ok Qd8 (by rintro _ _ _ _ ⟨_, _, _, _, _, rfl, _⟩; rfl) fun _ _ _ s H vs Q E hr h => ?_
 obtain ⟨p, A', S, j, t, rfl, hh, hj, k⟩ := h
 have hu := QC hr
 refine ⟨_, (Qc (Qk (qm M1_ (pv 0) T.cl hr (Qa (pv 1) Qe)))
  (Qh (Qs (QG QI (Qw (pv 0) rfl) (pv 1) (fun _ _ => rfl))))), ?_⟩
 obtain ⟨ws, hw, ht⟩ := hh.sl
 obtain ⟨v, hv2, tv⟩ := Q6 ht hj
 have hlt := (List.getElem?_eq_some_iff.mp hj).1
 refine ⟨_, rfl, p, A'.dx, _, rfl, hh.ob, Ql, _, rfl, p, A', S, j, rfl, hh, by omega, by omega, ?_⟩
 exact ⟨_, rfl, p, C, A'.dx, _, _, rfl, hh.ob, T.cl, T.n_slots, Qb5, _, rfl, A'.sl, ws, j, v, rfl, rfl, SqL.of hw, Zh hv2, k v tv⟩
theorem QcH {f : Addr} (F : Fun K "waiting" "House.waiting" Z6 f fd) (T : TX K mg C) (M1_ : MethOk P w K mg base C n "check_guard" ["self", "guard"] (ZP C) [[]]) :
  FnOk P w K mg base CX0 (n + 1) f fd ["self", "guard"] (QdT C) := by
 refine F.ok Qcz (by rintro _ _ _ _ ⟨_, _, _, _, _, rfl, _⟩; rfl) fun _ _ _ s H vs Q E hr h => ?_
 obtain ⟨p, A', S, g, ns, rfl, hh, hg, hq, k⟩ := h
 have hu := QC hr
 refine ⟨_, (Qc (Qk (qm M1_ (pv 0) T.cl hr (Qa (pv 1) Qe)))
  (Qh (Qs (QcE Qdj (by rfl) T.g_list PyProof.Rows.boot_list (Qa (QG QI (Qw (pv 0) rfl) (pv 1) (fun _ _ => rfl)) Qe))))), ?_⟩
 obtain ⟨a, ha, hi⟩ := Q6 hh.ql hq
 refine ⟨_, rfl, p, A'.dx, _, rfl, hh.ob, Ql, _, rfl, p, g, rfl, by omega, by omega, ?_⟩
 refine ⟨_, rfl, p, C, A'.dx, _, _, rfl, hh.ob, T.cl, T.n_queues, Qa2, _, rfl, A'.qs, _, g, .ref a, rfl, rfl, SqL.of hh.qs, Zh (by rw [List.getElem?_map, ha]; rfl), a, _, rfl, .inl (SqL.of hi), k⟩
theorem QeQ {f : Addr} (F : Fun K "box_thing" "box_thing" Qbd f fd) (T : TX K mg C)  :
  FnOk P w K mg base CX0 (n + 1) f fd ["name"] (QbZ) := by
 refine F.ok QeH (by rintro _ _ _ _ ⟨_, rfl, _⟩; rfl) fun _ _ _ s H vs Q E hr h => ?_
 obtain ⟨n, rfl, k⟩ := h
 have hu := QC hr
 refine ⟨_, (Qh (Qs (Qan (Qa Z1 (Qa (pv 0) Qe))))), ?_⟩
 exact ⟨_, rfl, zl, fun a ha => k a ha⟩
theorem Qft {f : Addr} (F : Fun K "box_name" "box_name" QbJ f fd) (T : TX K mg C)  :
  FnOk P w K mg base CX0 (n + 1) f fd ["thing"] (Qac) := by
 refine F.ok Qfi (by rintro _ _ _ _ ⟨_, _, rfl, _⟩; rfl) fun _ _ _ s H vs Q E hr h => ?_
 obtain ⟨v, t, rfl, tv, k⟩ := h
 have hu := QC hr
 refine ⟨_, (Qc (QZ (Qch (Qy QdM (by rfl) T.g_isi PyProof.Rows.boot_isinstance (Qa (pv 0) (Qa (Qfm (v := .ty "tuple") (by rfl) T.g_tuple PyProof.Rows.boot_tuple rfl) Qe)))) (Qh (Qs (QG Q7 (pv 0) Qi (fun _ _ => rfl)))) Qn)
  (Qh (Qs QcD))), ?_⟩
 cases t with
 | non =>
  cases (show v = .non from tv)
  exact ⟨_, rfl, _, "tuple", _, false, rfl, .non, QhK K, _, rfl, Qbz k⟩
 | num i =>
  cases (show v = .int i from tv)
  exact ⟨_, rfl, _, "tuple", _, false, rfl, .int i, QhL K, _, rfl, Qbz k⟩
 | box n =>
  obtain ⟨a, rfl, q⟩ := tv
  exact ⟨_, rfl, _, "tuple", _, true, rfl, .tup q, QdH _ _, _, rfl, Qcd ⟨_, rfl, a, _, 1, .int n, rfl, rfl, SqT.of q, rfl, k⟩⟩
theorem Qf3 {f : Addr} (F : Fun K "renamed" "renamed" Qcn f fd) (T : TX K mg C) (D1_ : DefOk P w K mg base n "box_name" ["thing"] (Qac) [[]])
  (D2_ : DefOk P w K mg base n "box_thing" ["name"] (QbZ) [[]]) :
  FnOk P w K mg base CX0 (n + 1) f fd ["thing", "new_names"] (QfQ) := by
 refine F.ok Qdf (by rintro _ _ _ _ ⟨_, _, _, _, rfl, _⟩; rfl) fun _ _ _ s H vs Q E hr h => ?_
 obtain ⟨v, t, a, ns, rfl, tv, ha, k⟩ := h
 have hu := QC hr
 refine ⟨_, (Qc (Qq (i := 2) Qdf.nd rfl (Or.inl rfl) (qc D1_ hr (Qa (pv 0) Qe)))
  (Qc (QZ (QaL (Qj2 (pv 2))) (Qh (Qs (pv 0))) Qn)
  (Qh (Qs (qc D2_ hr (Qa (QG QI (pv 1) (pv 2) (fun _ _ => rfl)) Qe)))))), ?_⟩
 refine ⟨_, rfl, v, t, rfl, tv, ?_⟩
 cases t with
 | non => exact ⟨_, rfl, _, rfl, Qcd ⟨_, rfl, k⟩⟩
 | num i => exact ⟨_, rfl, _, rfl, Qcd ⟨_, rfl, k⟩⟩
 | box n =>
  obtain ⟨j, m, rfl, hj, k⟩ := k
  exact ⟨_, rfl, _, rfl, Qbz ⟨_, rfl, _, rfl, a, _, j, .int m, rfl, rfl, SqL.of ha, Zh (by rw [List.getElem?_map, hj]; rfl), m, rfl, k⟩⟩
theorem Qcq {f : Addr} (F : Fun K "has_room" "House.has_room" ZY f fd) (T : TX K mg C)  :
  FnOk P w K mg base CX0 (n + 1) f fd ["self", "count"] (QdW C) := by
 refine F.ok Qcm (by rintro _ _ _ _ ⟨_, _, _, _, rfl, _⟩; rfl) fun _ _ _ s H vs Q E hr h => ?_
 obtain ⟨p, A', S, n, rfl, hh, k⟩ := h
 have hu := QC hr
 refine ⟨_, (Qh (Qs (Qee op_le (Qz QaH (Qy Qgk (by rfl) T.g_len PySem.boot_len (Qa (Qw (pv 0) rfl) Qe)) (pv 1)) (Qw (pv 0) rfl) (QF _)))), ?_⟩
 refine ⟨_, rfl, p, C, A'.dx, _, _, rfl, hh.ob, T.cl, T.n_kinds, Qb6, A'.kd, _, rfl, hh.kd, _, rfl, _, _, rfl, rfl, _, rfl, p, C, A'.dx, _, _, rfl, hh.ob, T.cl, T.n_room, QkJ, _, _, rfl, rfl, ?_⟩
 have e : (Qr S.boxes).length = S.boxes.length := by simp [Qr]
 rw [e]
 exact k
theorem Qca {f : Addr} {ds : List Value} (F : FunD K "make_room" "House.make_room" ZK f fd ds) (T : TX K mg C) (M1_ : MethOk P w K mg base C n "has_room" ["self", "count"] (QdW C) [[]]) :
  FnOk P w K mg base CX0 (n + 1) f fd ["self", "count", "besides"] (QdV C) := by
 refine F.ok Qb7 (by rintro _ _ _ _ ⟨_, _, _, _, _, rfl, _⟩; rfl) fun _ _ _ s H vs Q E hr h => ?_
 obtain ⟨p, A', S, n, v, rfl, hh, hn, k⟩ := h
 have hu := QC hr
 refine ⟨_, (Qh (QZ (QfY (Qch (qm M1_ (pv 0) T.cl hr (Qa (pv 1) Qe)))) QfZ Qn)), ?_⟩
 refine ⟨_, rfl, p, A'.dx, _, rfl, hh.ob, Ql, _, rfl, p, A', S, n, rfl, hh, _, rfl, ?_⟩
 rw [decide_eq_true hn]
 exact Qbz k
theorem QcO : QD (Qg QM) ["self", "draft", "slot", "new_names", "name", "row"] (QP ((Qbq (QeR (Qo QM) 1)))) "place" ["self"] [0] :=
 bsk
theorem QcN : QD (Qg QM) ["self", "draft", "slot", "new_names", "name", "row"] (QP ((Qbq (QeR (QeA (QeR (Qo QM) 2)) 1)))) "thing" ["new_names"] [3] :=
 bsk
theorem Qdy {f : Addr} (F : Fun K "build" "House.build" QM f fd) (T : TX K mg C) (gz : mg "zip" = none) (M1_ : MethOk P w K mg base C n "has_room" ["self", "count"] (QdW C) [[]])
  (D2_ : DefOk P w K mg base n "renamed" ["thing", "new_names"] (QfQ) [[]])
  (D3_ : DefOk P w K mg base n "box_thing" ["name"] (QbZ) [[]]) :
  FnOk P w K mg base CX0 (n + 1) f fd ["self", "draft", "slot"] (QgX C) := by
 refine F.ok Qah (by rintro _ _ _ _ ⟨_, _, _, _, _, _, _, _, _, rfl, _⟩; rfl) fun _ _ _ s H vs Q E hr h => ?_
 obtain ⟨p, A', S, kind, n, slot, ad, at_, al, rfl, hh, had, hat, hal, hn, hb, hroom, hs, k⟩ := h
 have hu := QC hr
 refine ⟨_, (Qc (QZ (QfY (Qch (qm M1_ (pv 0) T.cl hr (Qa (Qy Qt (by rfl) T.g_len PySem.boot_len (Qa (pv 1) Qe)) Qe)))) QfZ Qn)
  (Qc (Qq (i := 3) Qah.nd rfl (Or.inr rfl) (QaZ QcO rfl (Zb (by rfl) T.g_range (Qa (Qy Qt (by rfl) T.g_len PySem.boot_len (Qa (pv 1) Qe)) Qe)) (fun _ _ _ _ => QaM) (fun _ _ _ _ => (Qz QaH (Qz QaH (QkB (K' := K) rfl (pv 1) rfl) Qi) (pv 0)))))
  (Qc (Za PassesOwn.never rfl (pi_zip (by rfl) gz (Qa (pv 3) (Qa (pv 1) Qe))) (Qed rfl Qah.nd (i := 4) (j := 5) rfl rfl (Or.inl rfl) (Or.inl rfl))
  (Qc (Qbh hu (Qw (pv 0) rfl) (pv 4) (QG Q7 (pv 5) Qi (fun _ _ => rfl)) rfl)
  (Qh (Qbh hu (Qw (pv 0) rfl) (pv 4) (QaZ QcN rfl (QR (QG Q7 (pv 5) Qi (fun _ _ => rfl))) (fun _ _ _ _ => QaM) (fun _ _ _ _ => (qc D2_ hr (Qa (pv 0) (Qa (pv 1) Qe))))) rfl))))
  (Qc (Qbo (pv 0) (QG QI (pv 3) (pe_un un_neg Qi) (fun _ _ => rfl)) rfl)
  (Qc (Qg1 (qc D3_ hr (Qa (QG QI (pv 3) Qi (fun _ _ => rfl)) Qe)) (Qg3 (Qw (pv 0) rfl) (pv 2) QdF))
  (Qh (Qs (QG QI (pv 3) Qi (fun _ _ => rfl))))))))), ?_⟩
 have ne1 : p ≠ A'.kd := QB hh.ob hh.kd (by intro z; cases z)
 have ne2 : p ≠ A'.fd := QB hh.ob hh.fd (by intro z; cases z)
 have neL : ∀ b ∈ A'.lists, b ≠ p ∧ b ≠ A'.kd ∧ b ≠ A'.fd := fun b hb => by
  obtain ⟨vs, q⟩ := hh.isL b hb
  exact ⟨QB q hh.ob (by intro z; cases z), QB q hh.kd (by intro z; cases z), QB q hh.fd (by intro z; cases z)⟩
 have len : (Qa4 A' S).length < 1000 := by show 7 < 1000; decide
 have kl : (Qr S.boxes).length = S.boxes.length := by simp [Qr]
 have fl : (Qm S.boxes A'.fl).length = S.boxes.length := by simp [Qm, pr_len hh.fl]
 refine ⟨_, rfl, p, A'.dx, _, rfl, hh.ob, Ql, _, rfl, ad, _, rfl, .inl (SqL.of had), p, A', S, _, rfl, hh, _, rfl, ?_⟩
 rw [decide_eq_true (by show (S.boxes.length : Int) + (([V.ref at_].length : Nat) : Int) ≤ S.room; simp; omega)]
 refine Qbz ?_
 refine ⟨_, rfl, ad, _, rfl, .inl (SqL.of had), 1, rfl, by decide, by decide, ?_⟩
 refine Qa6 (lo := 0) (n := 1) (fun i ys H' => H' = H ∧ ys = (QH (S.last + 1) i).map V.int) ⟨rfl, rfl⟩ ?_ (Zr (by omega)) ?_ ?_
 ·rintro i ys H' ⟨_, rfl⟩
  rw [List.length_map, QJ]; exact Nat.le_refl _
 ·rintro i ys H' hi ⟨rfl, rfl⟩
  dsimp only [Qfc]
  refine Qcd ⟨_, rfl, p, C, A'.dx, _, _, rfl, hh.ob, T.cl, T.n_last, QkK, _, _, rfl, rfl, _, rfl, _, _, rfl, rfl, rfl, ?_⟩
  rw [Qct, List.map_append]
  show _ = _ ++ [V.int (S.last + 1 + (i : Int))]
  rw [Int.zero_add]
 ·rintro ys H' ⟨rfl, rfl⟩ ln hln
  have e1 : (QH (S.last + 1) 1).map V.int = [V.int (S.last + 1)] := by simp [QH]
  rw [e1]
  have d1 : (upd H' ln (.lst [V.int (S.last + 1)])) ln = some (.lst [V.int (S.last + 1)]) := Qb
  generalize eH1 : upd H' ln (.lst [V.int (S.last + 1)]) = H1 at d1
  have s1 : Same H' H1 := by rw [← eH1]; exact Same.new hln
  have fresh : ¬ (S.last + 1) ∈ S.boxes.map (·.name) := fun m => by
   obtain ⟨b, hb, e⟩ := List.mem_map.mp m
   have := hh.top b hb
   omega
  have pk : QbK (Qr S.boxes) (Sum.inl (S.last + 1) : Key) (V.str kind) = Qr S.boxes ++ [((Sum.inl (S.last + 1) : Key), V.str kind)] := Qbf _ (hh.noName fresh)
  have pf : ∀ l, QbK (Qm S.boxes A'.fl) (Sum.inl (S.last + 1) : Key) (V.ref l) = Qm S.boxes A'.fl ++ [((Sum.inl (S.last + 1) : Key), V.ref l)] := fun l => Qbf _ (by
   refine Qcw ?_
   rw [Qag (pr_len hh.fl)]
   intro m
   obtain ⟨b, hb, q⟩ := List.mem_map.mp m
   rw [Sum.inl.inj q] at hb
   exact fresh hb)
  refine ⟨_, rfl, _, rfl, ln, ad, _, _, rfl, d1, s1 _ _ had, ?_⟩
  refine QkM (xs := [V.int (S.last + 1)]) (ys := [V.ref at_]) (fun i σ H2 => ∃ v_name v_row, σ = [some (.ref p), some (.ref ad), some (.int slot), some (.ref ln), v_name, v_row] ∧ H2 ln = some (.lst [V.int (S.last + 1)]) ∧ H2 ad = some (.lst [V.ref at_]) ∧
   ((i = 0 ∧ H2 = H1) ∨ (i = 1 ∧ ∃ l, H' l = none ∧ H2 p = some (.ins C A'.dx (Qa4 A' S)) ∧ H2 A'.kd = some (.dK (Qr S.boxes ++ [((Sum.inl (S.last + 1) : Key), V.str kind)])) ∧
    H2 A'.fd = some (.dK (Qm S.boxes A'.fl ++ [((Sum.inl (S.last + 1) : Key), V.ref l)])) ∧ H2 l = some (.lst (List.replicate n .non)) ∧ ∀ b o, H' b = some o → b ≠ A'.kd → b ≠ A'.fd → H2 b = some o))) rfl
   ⟨_, _, rfl, d1, s1 _ _ had, .inl ⟨rfl, rfl⟩⟩ (fun i σ H2 _ ⟨_, _, _, a1, a2, _⟩ => ⟨a1, a2⟩) ?_ ?_
  ·rintro i x y σ H2 pp hx hy ⟨v1, v2, rfl, a1, a2, ⟨rfl, rfl⟩ | ⟨rfl, _⟩⟩ hpp
   ·cases hx
    cases hy
    refine ⟨pp, _, _, rfl, Qb, ?_⟩
    have s2 : Same H' (upd H2 pp (.tup [V.int (S.last + 1), V.ref at_])) := s1.trans (Same.new hpp)
    have f2 : (upd H2 pp (.tup [V.int (S.last + 1), V.ref at_])) ln = some (.lst [V.int (S.last + 1)]) := Zt d1 hpp
    generalize upd H2 pp (.tup [V.int (S.last + 1), V.ref at_]) = H3 at s2 f2 ⊢
    have hh3 := hh.same s2
    refine ⟨_, rfl, at_, _, 0, _, rfl, rfl, SqT.of (s2 _ _ hat), rfl, _, rfl, p, C, A'.dx, _, _, rfl, hh3.ob, T.cl, T.n_kinds, Qb6, _, rfl, A'.kd, _, rfl, DPut.k (k := Sum.inl (S.last + 1)) hh3.kd (QK (by omega)), ?_⟩
    rw [pk]
    have k4 : ∀ b o, H3 b = some o → b ≠ A'.kd → (upd H3 A'.kd (.dK (Qr S.boxes ++ [((Sum.inl (S.last + 1) : Key), V.str kind)]))) b = some o := fun b o q nb => by rw [Qf nb]; exact q
    have e4 : (upd H3 A'.kd (.dK (Qr S.boxes ++ [((Sum.inl (S.last + 1) : Key), V.str kind)]))) A'.kd = some (.dK (Qr S.boxes ++ [((Sum.inl (S.last + 1) : Key), V.str kind)])) := Qb
    have u4 : ∀ b, (upd H3 A'.kd (.dK (Qr S.boxes ++ [((Sum.inl (S.last + 1) : Key), V.str kind)]))) b = none → H3 b = none := fun b z => Qaj z
    generalize upd H3 A'.kd (.dK (Qr S.boxes ++ [((Sum.inl (S.last + 1) : Key), V.str kind)])) = H4 at k4 e4 u4 ⊢
    have hat4 := k4 _ _ (s2 _ _ hat) (QB (s2 _ _ hat) hh3.kd (by intro z; cases z))
    have hal4 := k4 _ _ (s2 _ _ hal) (QB (s2 _ _ hal) hh3.kd (by intro z; cases z))
    have hln4 := k4 _ _ f2 (QB f2 hh3.kd (by intro z; cases z))
    have had4 := k4 _ _ (s2 _ _ had) (QB (s2 _ _ had) hh3.kd (by intro z; cases z))
    have hp4 := k4 _ _ hh3.ob ne1
    have hf4 := k4 _ _ hh3.fd hh3.kf.symm
    refine ⟨_, rfl, at_, _, 1, _, rfl, rfl, SqT.of hat4, rfl, al, rfl, ⟨_, SqL.of hal4⟩, ?_⟩
    refine Z2 (xs := List.replicate n V.non) (fun j ys H5 => H5 = H4 ∧ ys = List.replicate j V.non) ⟨rfl, rfl⟩ ?_ (Zr (by simp; omega)) ?_ ?_ ?_
    ·rintro j ys H5 ⟨_, rfl⟩
     simp
    ·rintro j ys H5 _ ⟨rfl, _⟩
     exact SqL.of hal4
    ·rintro j x ys H5 hx ⟨rfl, rfl⟩
     dsimp only [Qfc]
     have ex : x = .non := List.eq_of_mem_replicate (List.mem_of_getElem? hx)
     subst ex
     refine Qcd ⟨_, rfl, _, rfl, V.non, LW.T.non, ln, [S.last + 1], rfl, rfl, hln4, rfl, ?_⟩
     rw [List.replicate_succ']
    ·rintro ys H5 ⟨rfl, rfl⟩ l hl
     rw [List.length_replicate]
     have nl := s2.free (u4 l hl)
     have lf : l ≠ A'.fd := (Qd hh.fd nl).symm
     refine ⟨_, rfl, p, C, A'.dx, _, _, rfl, Zt hp4 hl, T.cl, T.n_fields, Qa3, _, rfl, A'.fd, _, rfl, DPut.k (kvs := Qm S.boxes A'.fl) (k := Sum.inl (S.last + 1)) (Zt hf4 hl) (QK (by omega)), ?_⟩
     rw [pf]
     have up : ∀ {b o}, H5 b = some o → b ≠ A'.fd → (upd (upd H5 l (.lst (List.replicate n V.non))) A'.fd (.dK (Qm S.boxes A'.fl ++ [((Sum.inl (S.last + 1) : Key), V.ref l)]))) b = some o := fun q nb => by rw [Qf nb]; exact Zt q hl
     refine ⟨_, _, rfl, up hln4 (QB hln4 hf4 (by intro z; cases z)), up had4 (QB had4 hf4 (by intro z; cases z)), .inr ⟨rfl, l, nl, up hp4 ne2, up e4 hh.kf, Qb, by rw [Qf lf]; exact Qb, fun b o q n1 n2 => up (k4 _ _ (s2 _ _ q) n1) n2⟩⟩
   ·simp at hx
  ·rintro σ H2 ⟨v1, v2, rfl, a1, a2, ⟨z, _⟩ | ⟨_, l, nl, b1, b2, b3, b4, b5⟩⟩
   ·cases z
   refine ⟨_, rfl, _, rfl, ln, _, -1, _, rfl, rfl, SqL.of a1, rfl, _, rfl, p, C, A'.dx, _, rfl, b1, T.cl, T.n_last, len, ?_⟩
   rw [QiC]
   have nlp : l ≠ p := (Qd hh.ob nl).symm
   have nll : ∀ b ∈ A'.lists, b ≠ l := fun b hb => by
    obtain ⟨vs, q⟩ := hh.isL b hb
    exact Qd q nl
   have hh3 : HouseAt C (upd H2 p (.ins C A'.dx (Qa4 A' { S with last := S.last + 1 }))) p { A' with fl := A'.fl ++ [l] } (S.built kind n) := by
    refine hh.built (l := l) Qb (by rw [Qf ne1.symm]; exact b2) (by rw [Qf ne2.symm]; exact b3) (by rw [Qf nlp]; exact b4) (fun z => nll l z rfl) (fun b hb => ?_) fun b xs q => ?_
    ·obtain ⟨a1, a2, a3⟩ := neL b hb
     obtain ⟨vs, q⟩ := hh.isL b hb
     rw [Qf a1, b5 _ _ q a2 a3, q]
    ·rw [Qf (QB q hh.ob (by intro z; cases z))]
     exact b5 _ _ q (QB q hh.kd (by intro z; cases z)) (QB q hh.fd (by intro z; cases z))
   have a3 : (upd H2 p (.ins C A'.dx (Qa4 A' { S with last := S.last + 1 }))) ln = some (.lst [V.int (S.last + 1)]) := by rw [Qf (QB a1 b1 (by intro z; cases z))]; exact a1
   have b6 : ∀ b o, H' b = some o → b ≠ p → b ≠ A'.kd → b ≠ A'.fd → (upd H2 p (.ins C A'.dx (Qa4 A' { S with last := S.last + 1 }))) b = some o := fun b o q n0 n1 n2 => by rw [Qf n0]; exact b5 b o q n1 n2
   generalize upd H2 p (.ins C A'.dx (Qa4 A' { S with last := S.last + 1 })) = H3 at hh3 a3 b6 ⊢
   refine ⟨_, rfl, ln, _, 0, _, rfl, rfl, SqL.of a3, rfl, S.last + 1, rfl, fun a ha => ?_⟩
   have hh4 := hh3.new (o := .tup [.str "box", .int (S.last + 1)]) ha
   obtain ⟨ws, hw, ht⟩ := hh4.sl
   have hl : ws.length = S.slots.length := (pr_len ht).symm
   refine ⟨_, rfl, p, C, A'.dx, _, _, rfl, hh4.ob, T.cl, T.n_slots, Qb5, _, rfl, A'.sl, ws, slot, slot, rfl, rfl, hw, QfB (by omega), ?_⟩
   have nls : ln ≠ A'.sl := fun e => by
    obtain ⟨vs, q⟩ := hh.isL A'.sl (by simp [HA.lists])
    rw [← e, hln] at q; cases q
   refine ⟨_, rfl, ln, _, 0, _, rfl, rfl, SqL.of (by rw [Qf nls]; exact Zt a3 ha), rfl, ?_⟩
   have hh5 := hh4.setSlot (j := slot) (t := .box (S.last + 1)) (v := .ref a) hw ht ⟨a, rfl, Qb⟩
   refine k { A' with fl := A'.fl ++ [l] } _ hh5 (fun b o q nb => ?_) (fun b xs q => ?_) (fun b hb => ?_)
   ·have nb : b ≠ p ∧ b ≠ A'.kd ∧ b ≠ A'.fd ∧ b ≠ A'.sl := by simp [HA.foot, HA.lists] at nb; exact ⟨nb.1, nb.2.1, nb.2.2.1, nb.2.2.2.1⟩
    rw [Qf nb.2.2.2]
    exact Zt (b6 b o q nb.1 nb.2.1 nb.2.2.1) ha
   ·have q3 := b6 b _ q (QB q hh.ob (by intro z; cases z)) (QB q hh.kd (by intro z; cases z)) (QB q hh.fd (by intro z; cases z))
    have q4 := Zt (o := .tup [.str "box", .int (S.last + 1)]) q3 ha
    rw [Qf (QB q4 hw (by intro z; cases z))]
    exact q4
   ·have hb : b = l ∨ b ∈ A'.foot p := by
     simp only [HA.foot, HA.lists, List.mem_cons, List.mem_append, List.not_mem_nil, or_false] at hb ⊢
     rcases hb with h | h | h | h | h | h | (h | h) | h | h <;> simp [h]
    rcases hb with e | e
    ·right; rw [e]; exact nl
    ·exact .inl e
theorem Qej {f : Addr} {ds : List Value} (F : FunD K "make" "House.make" QaT f fd ds) (T : TX K mg C) {aF : Addr} (hF : mg "FIXED_SIZES" = some (.ref aF)) (KD : QjM P w K aF QjF) (M2_ : MethOk P w K mg base C n "check_slot" ["self", "slot"] (Qav C) [[]])
  (M1_ : MethOk P w K mg base C n "make_room" ["self", "count", "besides"] (QdV C) [[], [.none]])
  (M3_ : MethOk P w K mg base C n "build" ["self", "draft", "slot"] (QgX C) [[]]) :
  FnOk P w K mg base CX0 (n + 1) f fd ["self", "kind", "size", "slot"] (QhU C) := by
 obtain ⟨f1_, fd1_, m1_, G1_, b1_⟩ := M1_
 refine F.ok Qd4 (by rintro _ _ _ _ ⟨_, _, _, _, _, _, rfl, _⟩; rfl) fun _ _ _ s H vs Q E hr h => ?_
 obtain ⟨p, A', S, kind, size, slot, rfl, hh, h0, h1, hb, hroom, hs, k⟩ := h
 have hu := QC hr
 refine ⟨_, (Qc (Qk (qm M2_ (pv 0) T.cl hr (Qa (pv 3) Qe)))
  (Qc (Qk (Qib (pv 0) T.cl m1_ G1_ hr (b1_ [.none] (by simp)) QjN QgC (Qa Qi Qe)))
  (Qh (Qs (qm M3_ (pv 0) T.cl hr (Qa (ZR (Qa (Qan (Qa (pv 1) (Qa (Qz Qj4 (ZR (Qa QcD Qe)) (Qjp KD (by rfl) hF (pv 1) (pv 2) ⟨rfl, rfl, rfl, rfl⟩)) Qe))) Qe)) (Qa (pv 3) Qe))))))), ?_⟩
 refine ⟨_, rfl, p, A'.dx, _, rfl, hh.ob, Ql, _, rfl, p, A', S, slot, rfl, hh, by omega, by omega, ?_⟩
 refine ⟨_, rfl, p, A'.dx, _, rfl, hh.ob, Ql, p, A', S, 1, .non, rfl, hh, by omega, ?_⟩
 refine ⟨_, rfl, p, A'.dx, _, rfl, hh.ob, Ql, _, rfl, by decide, fun l0 hl0 => ⟨_, rfl, _, rfl, Sum.inr kind, rfl, ?_⟩⟩
 rw [QiG]
 refine ⟨l0, _, [V.non], rfl, rfl, Qb, by omega, by omega, by rw [PySem.sizeLine_eq]; simp; omega, fun l hl => ?_⟩
 rw [Qg9]
 refine ⟨zl, fun t ht => ⟨zl, fun d hd => ?_⟩⟩
 have s1 : Same H (upd H l0 (.lst [V.non])) := Same.new hl0
 have s2 := s1.trans (Same.new (o := .lst (List.replicate (ZQ kind size).toNat V.non)) hl)
 have s3 := s2.trans (Same.new (o := .tup [.str kind, .ref l]) ht)
 have s4 := s3.trans (Same.new (o := .lst [.ref t]) hd)
 refine ⟨_, rfl, p, A', S, kind, (ZQ kind size).toNat, slot, d, t, l, rfl, hh.same s4, Qb, Zt Qb hd, Zt (Zt Qb ht) hd, by omega, hb, hroom, hs, fun A2 H2 hh2 fr2 tu2 gr2 => ?_⟩
 exact k A2 H2 hh2 (fun b o q nb => fr2 b o (s4 b o q) nb) ((Tups.of_same s4).trans tu2) (fun b hb => (gr2 b hb).imp id fun z => s4.free z)
theorem Qc7 : QD (Qg QX) ["self", "room", "slots"] (QP ((Qbq (QeR (Qo QX) 5)))) "guard" [] [] :=
 bsk
theorem Qc6 : QD (Qg QX) ["self", "room", "slots"] (QP ((Qbq (QeR (Qo QX) 6)))) "guard" [] [] :=
 bsk
theorem Qel {f : Addr} {ds : List Value} (F : FunD K "__init__" "House.__init__" QX f fd ds) (T : TX K mg C)  :
  FnOk P w K mg base CX0 (n + 1) f fd ["self", "room", "slots"] (QjU C) := by
 refine F.ok Qd6 (by rintro _ _ _ _ ⟨_, _, _, _, rfl, _⟩; rfl) fun _ _ _ s H vs Q E hr h => ?_
 obtain ⟨p, dx, room, n, rfl, hp, h0, h1, k⟩ := h
 have hu := QC hr
 obtain ⟨tG, htG⟩ := T.g_guards
 refine ⟨_, (Qc (Qbo (pv 0) (pv 1) rfl)
  (Qc (Qbo (pv 0) (Qz Qj4 (ZR (Qa QcD Qe)) (pv 2)) rfl)
  (Qc (Qbo (pv 0) Qi rfl)
  (Qc (Qbo (pv 0) Qaq rfl)
  (Qc (Qbo (pv 0) Qaq rfl)
  (Qc (Qbo (pv 0) (QaZ Qc7 rfl (Zb (by rfl) T.g_range (Qa (QgB (v := .int 4) (by rfl) htG ⟨tG, rfl⟩) Qe)) (fun _ _ _ _ => QaM) (fun _ _ _ _ => (ZR Qe))) rfl)
  (Qh (Qbo (pv 0) (QaZ Qc6 rfl (Zb (by rfl) T.g_range (Qa (QgB (v := .int 4) (by rfl) htG ⟨tG, rfl⟩) Qe)) (fun _ _ _ _ => QaM) (fun _ _ _ _ => (ZR Qe))) rfl)))))))), ?_⟩
 refine ⟨_, rfl, _, rfl, p, C, dx, _, rfl, hp, T.cl, T.n_room, (by show 0 < 1000; decide), ?_⟩
 refine ⟨by decide, fun l0 hl0 => ⟨_, rfl, l0, _, [V.non], rfl, rfl, Qb, by omega, by omega, by rw [PySem.sizeLine_eq]; simp; omega, fun l hl => ?_⟩⟩
 rw [Qg9]
 have p0 : p ≠ l0 := Qd Qb hl0
 have p1 : p ≠ l := Qd (by rw [Qf p0]; exact Qb) hl
 refine ⟨_, rfl, p, C, dx, _, rfl, (by rw [Qf p1, Qf p0]; exact Qb), T.cl, T.n_slots, (by show 1 < 1000; decide), ?_⟩
 refine ⟨_, rfl, p, C, dx, _, rfl, Qb, T.cl, T.n_last, (by show 2 < 1000; decide), ?_⟩
 intro d1 hd1
 have p2 : p ≠ d1 := Qd Qb hd1
 refine ⟨_, rfl, p, C, dx, _, rfl, (by rw [Qf p2]; exact Qb), T.cl, T.n_kinds, (by show 3 < 1000; decide), ?_⟩
 intro d2 hd2
 have p3 : p ≠ d2 := Qd Qb hd2
 refine ⟨_, rfl, p, C, dx, _, rfl, (by rw [Qf p3]; exact Qb), T.cl, T.n_fields, (by show 4 < 1000; decide), ?_⟩
 dsimp only [tSeq, sFld]
 refine comp4 fun as Ha la na ha sa q hq => ?_
 have eP := sa p _ Qb
 have p4 : p ≠ q := Qd eP hq
 refine ⟨_, rfl, p, C, dx, _, rfl, (by rw [Qf p4]; exact eP), T.cl, T.n_queues, (by show 5 < 1000; decide), ?_⟩
 refine comp4 fun bs Hb lb nb hb sb tt htt => ?_
 have eP2 := sb p _ Qb
 have p5 : p ≠ tt := Qd eP2 htt
 refine ⟨_, rfl, p, C, dx, _, rfl, (by rw [Qf p5]; exact eP2), T.cl, T.n_told, (by show 6 < 1000; decide), ?_⟩
 rw [Qiy]
 have eL := sa l _ (Qbk (Zt (Qbk (Zt (Qbk (Qbk Qb p1.symm) p1.symm) hd1) p1.symm) hd2) p1.symm)
 have eD1 := sa d1 _ (Qbk (Zt (Qbk Qb p2.symm) hd2) p2.symm)
 have eD2 := sa d2 _ (Qbk Qb p3.symm)
 have eA : ∀ a ∈ as, a ≠ p := fun a m => (Qd Qb (ha a m).1).symm
 have eB : ∀ a ∈ bs, a ≠ p := fun a m => (Qd Qb (hb a m).1).symm
 have up2 : ∀ {o o' : HO} (b : Addr) (u : HO), b ≠ p → Hb b = some u → upd (upd Hb tt o) p o' b = some u := fun b u n h => Qbk (Zt h htt) n
 have upB : ∀ (b : Addr) (u : HO), b ≠ p → Ha b = some u → Hb b = some u := fun b u n h => sb _ _ (Qbk (Zt h hq) n)
 have low : ∀ (b : Addr) (u : HO), b ≠ p → H b = some u → Ha b = some u := fun b u n h => sa _ _ (Qbk (Zt (Qbk (Zt (Qbk (Qbk (Zt (Zt (Qbk h n) hl0) hl) n) n) hd1) n) hd2) n)
 have eQ := sb q _ (Qbk Qb p4.symm)
 have fl : H l = none := Qaj (Qaj hl)
 have f1 : H d1 = none := Qaj (Qaj (Qaj (Qaj (Qaj hd1))))
 have f2 : H d2 = none := Qaj (Qaj (Qaj (Qaj (Qaj (Qaj (Qaj hd2))))))
 have gone : ∀ b : Addr, Ha b = none → b ≠ p → H b = none := fun b h n => by
  cases e : H b with
  | none => rfl
  | some u => rw [low b u n e] at h; cases h
 have fA : ∀ a ∈ as, H a = none := fun a m => Qaj (Qaj (Qaj (Qaj (Qaj (Qaj (Qaj (Qaj (Qaj (ha a m).1))))))))
 have fB : ∀ a ∈ bs, Ha a = none := fun a m => Qaj (Qaj (hb a m).1)
 have nT : ∀ b u, Hb b = some u → b ≠ tt := fun b u h => Qd h htt
 have tt0 : Ha tt = none := by
  cases e : Ha tt with
  | none => rfl
  | some u => rw [upB tt u p5.symm e] at htt; cases htt
 refine k ⟨dx, l, d1, d2, [], q, as, tt, bs⟩ _ ⟨Qb, ⟨_, up2 _ _ p1.symm (upB _ _ p1.symm eL), Qh8 (show isT _ .non .non from rfl) _⟩, up2 _ _ p2.symm (upB _ _ p2.symm eD1), up2 _ _ p3.symm (upB _ _ p3.symm eD2), .nil,
  up2 _ _ p4.symm eQ, Qig la fun a m => up2 _ _ (eA a m) (upB _ _ (eA a m) (ha a m).2), Qbk Qb p5.symm, Qig lb fun a m => up2 _ _ (eB a m) (hb a m).2, ?_, ?_, List.Pairwise.nil, fun b hb => by cases hb⟩
  (fun b o h n => ?_) (fun b xs h => ?_) (fun b hb => ?_)
 ·show (l :: q :: tt :: ([] ++ (as ++ bs))).Nodup
  have l1 : l ≠ q := Qd eL hq
  have l2 : l ≠ tt := nT _ _ (upB _ _ p1.symm eL)
  have l3 : l ∉ as := fun m => by
   have z := (ha l m).1
   rw [Qbk (Zt (Qbk (Zt (Qbk (Qbk Qb p1.symm) p1.symm) hd1) p1.symm) hd2) p1.symm] at z
   cases z
  have l4 : l ∉ bs := fun m => by rw [fB l m] at eL; cases eL
  have q1 : q ≠ tt := nT _ _ eQ
  have q2 : q ∉ as := fun m => by rw [(ha q m).2] at hq; cases hq
  have q3 : q ∉ bs := fun m => by
   have z := (hb q m).1
   rw [Qbk Qb p4.symm] at z
   cases z
  have t1 : tt ∉ as := fun m => by rw [(ha tt m).2] at tt0; cases tt0
  have t2 : tt ∉ bs := fun m => by rw [(hb tt m).2] at htt; cases htt
  have ab : ∀ x ∈ as, ∀ y ∈ bs, x ≠ y := fun x hx y hy e => by
   subst e
   have z := fB x hy
   rw [(ha x hx).2] at z
   cases z
  simp only [List.nil_append, List.nodup_cons, List.mem_cons, List.mem_append, not_or]
  exact ⟨⟨l1, l2, l3, l4⟩, ⟨q1, q2, q3⟩, ⟨t1, t2⟩, List.nodup_append.mpr ⟨na, nb, ab⟩⟩
 ·exact Qd (Qbk Qb p2.symm) hd2
 ·have n : b ≠ p := by simpa using n
  exact up2 _ _ n (upB _ _ n (low _ _ n h))
 ·have n : b ≠ p := QB h hp (by intro z; cases z)
  exact up2 _ _ n (upB _ _ n (low _ _ n h))
 ·have hb' : b = p ∨ b = d1 ∨ b = d2 ∨ b = l ∨ b = q ∨ b = tt ∨ b ∈ as ∨ b ∈ bs := by simpa [HA.foot, HA.lists] using hb
  rcases hb' with e | e | e | e | e | e | e | e
  ·left; simp [e]
  ·right; rw [e]; exact f1
  ·right; rw [e]; exact f2
  ·right; rw [e]; exact fl
  ·right; rw [e]; exact gone q hq p4.symm
  ·right; rw [e]; exact gone tt tt0 p5.symm
  ·right; exact fA b e
  ·right; exact gone b (fB b e) (eB b e)
theorem Qbv {f : Addr} (F : Fun K "check_thing" "House.check_thing" Zm f fd) (T : TX K mg C) (D1_ : DefOk P w K mg base n "box_name" ["thing"] (Qac) [[]])
  (M2_ : MethOk P w K mg base C n "check_box" ["self", "name"] (Zu C) [[]]) :
  FnOk P w K mg base CX0 (n + 1) f fd ["self", "thing"] (QbA C) := by
 refine F.ok Z3 (by rintro _ _ _ _ ⟨_, _, _, _, _, rfl, _⟩; rfl) fun _ _ _ s H vs Q E hr h => ?_
 obtain ⟨p, A', S, v, t, rfl, hh, tv, hn, k⟩ := h
 have hu := QC hr
 refine ⟨_, (Qc (Qq (i := 2) Z3.nd rfl (Or.inl rfl) (qc D1_ hr (Qa (pv 1) Qe)))
  (Qh (QZ (QaL (Qco (pv 2))) (Qh (Qk (qm M2_ (pv 0) T.cl hr (Qa (pv 2) Qe)))) Qn))), ?_⟩
 refine ⟨_, rfl, v, t, rfl, tv, ?_⟩
 cases t with
 | non => exact ⟨_, rfl, _, rfl, Qbz k⟩
 | num i => exact ⟨_, rfl, _, rfl, Qbz k⟩
 | box n => exact ⟨_, rfl, _, rfl, Qcd ⟨_, rfl, p, A'.dx, _, rfl, hh.ob, Ql, _, rfl, p, A', S, n, rfl, hh, hn n rfl, k⟩⟩
theorem QeJ {f : Addr} (F : Fun K "put" "House.put" Qa8 f fd) (T : TX K mg C) (M1_ : MethOk P w K mg base C n "check_box" ["self", "name"] (Zu C) [[]])
  (M2_ : MethOk P w K mg base C n "check_thing" ["self", "thing"] (QbA C) [[]])
  (M3_ : MethOk P w K mg base C n "check_field" ["self", "name", "at"] (QbB C) [[]]) :
  FnOk P w K mg base CX0 (n + 1) f fd ["self", "name", "at", "thing"] (Qje C) := by
 refine F.ok QeF (by rintro _ _ _ _ ⟨_, _, _, _, _, _, _, _, rfl, _⟩; rfl) fun _ _ _ s H vs Q E hr h => ?_
 obtain ⟨p, A', S, i, b, at_, v, t, rfl, hh, hi, hat, tv, hn, k⟩ := h
 have hu := QC hr
 refine ⟨_, (Qc (Qk (qm M1_ (pv 0) T.cl hr (Qa (pv 1) Qe)))
  (Qc (Qk (qm M2_ (pv 0) T.cl hr (Qa (pv 3) Qe)))
  (Qc (Qk (qm M3_ (pv 0) T.cl hr (Qa (pv 1) (Qa (pv 2) Qe))))
  (Qh (Qg1 (pv 3) (Qg3 (Z9 hu (Qw (pv 0) rfl) (pv 1) (fun _ _ => rfl)) (pv 2) QdF)))))), ?_⟩
 obtain ⟨a, ws, ha, hw, ht, hv⟩ := hh.rowAt hi
 refine ⟨_, rfl, p, A'.dx, _, rfl, hh.ob, Ql, _, rfl, p, A', S, b.name, rfl, hh, QdJ hi, ?_⟩
 refine ⟨_, rfl, p, A'.dx, _, rfl, hh.ob, Ql, _, rfl, p, A', S, v, t, rfl, hh, tv, hn, ?_⟩
 refine ⟨_, rfl, p, A'.dx, _, rfl, hh.ob, Ql, _, rfl, _, rfl, p, A', S, i, b, at_, rfl, hh, hi, by omega, by omega, ?_⟩
 refine ⟨_, rfl, _, rfl, p, C, A'.dx, _, _, rfl, hh.ob, T.cl, T.n_fields, Qa3, _, rfl, A'.fd, .ref a, rfl, ?_, _, rfl, a, ws, at_, at_, rfl, rfl, hw, QfB (by rw [← pr_len ht]; exact hat), ?_⟩
 ·rw [← hv]; exact DGet.k (k := Sum.inl b.name) hh.fd
 exact hh.outOne (by simp [HA.lists, List.mem_of_getElem? ha]) hw (hh.setField hi ha hw ht tv) k
theorem Qem {f : Addr} (F : Fun K "hold" "House.hold" QaV f fd) (T : TX K mg C) (M1_ : MethOk P w K mg base C n "check_slot" ["self", "slot"] (Qav C) [[]])
  (M2_ : MethOk P w K mg base C n "check_thing" ["self", "thing"] (QbA C) [[]]) :
  FnOk P w K mg base CX0 (n + 1) f fd ["self", "slot", "thing"] (QhZ C) := by
 refine F.ok Qd7 (by rintro _ _ _ _ ⟨_, _, _, _, _, _, rfl, _⟩; rfl) fun _ _ _ s H vs Q E hr h => ?_
 obtain ⟨p, A', S, j, v, t, rfl, hh, hj, tv, hn, k⟩ := h
 have hu := QC hr
 refine ⟨_, (Qc (Qk (qm M1_ (pv 0) T.cl hr (Qa (pv 1) Qe)))
  (Qc (Qk (qm M2_ (pv 0) T.cl hr (Qa (pv 2) Qe)))
  (Qh (Qg1 (pv 2) (Qg3 (Qw (pv 0) rfl) (pv 1) QdF))))), ?_⟩
 obtain ⟨ws, hw, ht⟩ := hh.sl
 refine ⟨_, rfl, p, A'.dx, _, rfl, hh.ob, Ql, _, rfl, p, A', S, j, rfl, hh, by omega, by omega, ?_⟩
 refine ⟨_, rfl, p, A'.dx, _, rfl, hh.ob, Ql, _, rfl, p, A', S, v, t, rfl, hh, tv, hn, ?_⟩
 refine ⟨_, rfl, _, rfl, p, C, A'.dx, _, _, rfl, hh.ob, T.cl, T.n_slots, Qb5, _, rfl, A'.sl, ws, j, j, rfl, rfl, hw, QfB (by rw [← pr_len ht]; exact hj), ?_⟩
 exact hh.outOne (by simp [HA.lists]) hw (hh.setSlot hw ht tv) k
end
section
variable {C : Addr}
theorem QdA {f : Addr} (F : Fun K "_law_cell_at" "_law_cell_at" QaD f fd) (T : TX K mg C)  :
  FnOk P w K mg base CX0 (n + 1) f fd ["script", "k"] (Qfd K) := by
 refine F.ok Qdq (by rintro _ _ _ _ ⟨_, _, _, rfl, _⟩; rfl) fun _ _ _ s H vs Q E hr h => ?_
 obtain ⟨a, ns, k, rfl, hS, h0, q⟩ := h
 have hu := QC hr
 refine ⟨_, (Qc (QZ (Qp Qii (pv 1) (Qy Qt (by rfl) T.g_len PySem.boot_len (Qa (pv 0) Qe)) (QF _)) (Qh (Qs (QG QI (pv 0) (pv 1) (fun _ _ => rfl)))) Qn)
  (Qh (Qs Qi))), ?_⟩
 obtain ⟨j, rfl⟩ : ∃ j : Nat, k = (j : Int) := ⟨k.toNat, by omega⟩
 refine ⟨_, rfl, _, rfl, a, _, rfl, .inl hS.sq, _, _, rfl, rfl, _, rfl, ?_⟩
 refine QdI (fun hlt => ?_) (fun hlt => ?_)
 ·have hlt : (j : Int) < ((ns.map V.int).length : Int) := of_decide_eq_true hlt
  have hlt : j < ns.length := by rw [List.length_map] at hlt; omega
  refine ⟨_, rfl, _, rfl, a, _, j, V.int ns[j], rfl, rfl, hS.sq, Zh (by rw [List.getElem?_map, List.getElem?_eq_getElem hlt]; rfl), ?_⟩
  have e : cellOf ns (j : Int) = ns[j] := by simp [cellOf, List.getD_eq_getElem?_getD, hlt]
  rw [← e]; exact q
 ·have hlt : ¬ (j : Int) < ((ns.map V.int).length : Int) := fun z => hlt (decide_eq_true z)
  have e : cellOf ns (j : Int) = 0 := by
   rw [List.length_map] at hlt
   simp [cellOf, List.getD_eq_getElem?_getD, List.getElem?_eq_none (show ns.length ≤ j by omega)]
  rw [e] at q
  exact q
theorem Qfs {f : Addr} (F : Fun K "_law_draw" "_law_draw" QbI f fd) (T : TX K mg C) (D1_ : DefOk P w K mg base n "_law_cell_at" ["script", "k"] (Qfd K) [[]]) :
  FnOk P w K mg base CX0 (n + 1) f fd ["script", "k"] (Qcj K) := by
 refine F.ok Qfh (by rintro _ _ _ _ ⟨_, _, _, rfl, _⟩; rfl) fun _ _ _ s H vs Q E hr h => ?_
 obtain ⟨a, ns, k, rfl, hS, q⟩ := h
 have hu := QC hr
 refine ⟨_, (Qh (Qs (Qz QV (Qz Qf2 (Qz QaH (qc D1_ hr (Qa (pv 0) (Qa (Qz QV (pv 1) Qi) Qe))) (Qz Qf2 Qi (pv 1))) Qi) Qi))), ?_⟩
 refine ⟨_, rfl, _, rfl, _, _, rfl, rfl, (by show (0 : Int) < 61; decide), a, ns, _, rfl, hS, Int.emod_nonneg _ (by decide), ?_⟩
 refine ⟨_, rfl, _, _, rfl, rfl, .inl ⟨by decide, by decide⟩, _, _, rfl, rfl, _, _, rfl, rfl, .inr ⟨by decide, by decide⟩, _, _, rfl, rfl, (by show (0 : Int) < 2147483647; decide), q⟩
theorem Qfq {f : Addr} (F : Fun K "_law_many" "_law_many" QbG f fd) (T : TX K mg C) (D1_ : DefOk P w K mg base n "_law_cell_at" ["script", "k"] (Qfd K) [[]]) :
  FnOk P w K mg base CX0 (n + 1) f fd ["script"] (QhT K) := by
 refine F.ok QcA (by rintro _ _ _ _ ⟨_, _, rfl, _⟩; rfl) fun _ _ _ s H vs Q E hr h => ?_
 obtain ⟨a, ns, rfl, hS, q⟩ := h
 have hu := QC hr
 refine ⟨_, (Qc (Qq (i := 1) QcA.nd rfl (Or.inl rfl) (qc D1_ hr (Qa (pv 0) (Qa Qi Qe))))
  (Qc (QZ (Qp QaJ (Qz QV (pv 1) Qi) Qi (QF _)) (Qh (Qs (Qz QaH Qi (Qz QV (Qz QaG (pv 1) Qi) Qi)))) Qn)
  (Qh (Qs (Qz QaH Qi (Qz QV (pv 1) Qi)))))), ?_⟩
 refine ⟨_, rfl, a, ns, 0, rfl, hS, by decide, ?_⟩
 generalize cellOf ns 0 = c
 refine ⟨_, rfl, _, _, rfl, rfl, (by show (0 : Int) < 7; decide), rfl, _, rfl, QdI (fun _ => ?_) (fun _ => ?_)⟩
 ·refine ⟨_, rfl, _, _, rfl, rfl, ⟨by decide, by decide⟩, _, _, rfl, rfl, (by show (0 : Int) < 40; decide), _, _, rfl, rfl, q _ ?_ ?_⟩
  ·have := Int.emod_nonneg (c / 7) (show (40 : Int) ≠ 0 by decide); omega
  ·have := Int.emod_lt_of_pos (c / 7) (show (0 : Int) < 40 by decide); omega
 ·refine ⟨_, rfl, _, _, rfl, rfl, (by show (0 : Int) < 7; decide), _, _, rfl, rfl, q _ ?_ ?_⟩
  ·omega
  ·omega
theorem Qep {f : Addr} (F : Fun K "_law_number" "_law_number" QaY f fd) (T : TX K mg C) (D1_ : DefOk P w K mg base n "_law_draw" ["script", "k"] (Qcj K) [[]])
  (D2_ : DefOk P w K mg base n "_law_cell_at" ["script", "k"] (Qfd K) [[]]) :
  FnOk P w K mg base CX0 (n + 1) f fd ["script", "k"] (QgU K) := by
 refine F.ok QbE (by rintro _ _ _ _ ⟨_, _, _, rfl, _⟩; rfl) fun _ _ _ s H vs Q E hr h => ?_
 obtain ⟨a, ns, k, rfl, hS, q⟩ := h
 have hu := QC hr
 refine ⟨_, (Qc (Qq (i := 2) QbE.nd rfl (Or.inl rfl) (qc D1_ hr (Qa (pv 0) (Qa (pv 1) Qe))))
  (Qc (QZ (Qp QaJ (Qz QV (pv 2) Qi) Qi (QF _)) (Qh (Qs (Qz QV (qc D2_ hr (Qa (pv 0) (Qa (Qz QV (pv 1) Qi) Qe))) (Qz Qj5 Qi Qi)))) Qn)
  (Qc (QZ (Qp QaJ (Qz QV (pv 2) Qi) Qi (QF _)) (Qh (Qs (Qz Qj3 Qi (Qz QV (qc D2_ hr (Qa (pv 0) (Qa (Qz QV (pv 1) Qi) Qe))) (Qz Qj5 Qi Qi))))) Qn)
  (Qh (Qs (Qz Qj3 (Qz QV (Qz QaG (pv 2) Qi) Qi) Qi)))))), ?_⟩
 refine ⟨_, rfl, _, rfl, a, ns, k, rfl, hS, ?_⟩
 refine ⟨_, rfl, _, _, rfl, rfl, (by show (0 : Int) < 3; decide), rfl, _, rfl, QdI (fun _ => ?_) (fun _ => ?_)⟩
 ·refine ⟨_, rfl, _, rfl, _, _, rfl, rfl, (by show (0 : Int) < 61; decide), a, ns, _, rfl, hS, Int.emod_nonneg _ (by decide), _, _, rfl, rfl, ⟨by decide, by decide, by decide⟩, _, _, rfl, rfl, p40, ?_⟩
  rw [show Int.toNat 40 = 40 from rfl]
  have h1 := Int.emod_nonneg (cellOf ns (k % 61)) (show (10 : Int) ^ 40 ≠ 0 by decide)
  have h2 := Int.emod_lt_of_pos (cellOf ns (k % 61)) p40
  exact q _ (by have := p40; omega) h2
 ·refine ⟨_, rfl, _, _, rfl, rfl, (by show (0 : Int) < 3; decide), rfl, _, rfl, QdI (fun _ => ?_) (fun _ => ?_)⟩
  ·refine ⟨_, rfl, _, rfl, _, _, rfl, rfl, (by show (0 : Int) < 61; decide), a, ns, _, rfl, hS, Int.emod_nonneg _ (by decide), _, _, rfl, rfl, ⟨by decide, by decide, by decide⟩, _, _, rfl, rfl, p40, _, _, rfl, rfl, ?_⟩
   rw [show Int.toNat 40 = 40 from rfl]
   have h1 := Int.emod_nonneg (cellOf ns (k % 61)) (show (10 : Int) ^ 40 ≠ 0 by decide)
   have h2 := Int.emod_lt_of_pos (cellOf ns (k % 61)) p40
   exact q _ (by have := p40; omega) (by have := p40; omega)
  ·refine ⟨_, rfl, _, _, rfl, rfl, ⟨by decide, by decide⟩, _, _, rfl, rfl, (by show (0 : Int) < 9; decide), _, _, rfl, rfl, q _ ?_ ?_⟩
   ·have : (4 : Int) < 10 ^ 40 := by decide
    omega
   ·have : (9 : Int) < 10 ^ 40 := by decide
    omega
theorem QeK {f : Addr} (F : Fun K "_law_thing" "_law_thing" Qa9 f fd) (T : TX K mg C) (D1_ : DefOk P w K mg base n "_law_draw" ["script", "k"] (Qcj K) [[]])
  (D2_ : DefOk P w K mg base n "_law_number" ["script", "k"] (QgU K) [[]]) :
  FnOk P w K mg base CX0 (n + 1) f fd ["script", "k", "many"] (QhO K) := by
 refine F.ok Qcf (by rintro _ _ _ _ ⟨_, _, _, _, rfl, _⟩; rfl) fun _ _ _ s H vs Q E hr h => ?_
 obtain ⟨a, ns, k, many, rfl, hS, hm, q⟩ := h
 have hu := QC hr
 refine ⟨_, (Qc (Qq (i := 3) Qcf.nd rfl (Or.inl rfl) (qc D1_ hr (Qa (pv 0) (Qa (pv 1) Qe))))
  (Qc (QZ (Qp QaJ (Qz QV (pv 3) Qi) Qi (QF _)) (Qh (Qs QcD)) Qn)
  (Qc (QZ (Qp QaJ (Qz QV (pv 3) Qi) Qi (QF _)) (Qh (Qs (qc D2_ hr (Qa (pv 0) (Qa (Qz QaH (pv 1) Qi) Qe))))) Qn)
  (Qh (Qs (Qan (Qa Z1 (Qa (Qz QaH Qi (Qz QV (Qz QaG (pv 3) Qi) (pv 2))) Qe)))))))), ?_⟩
 refine ⟨_, rfl, _, rfl, a, ns, k, rfl, hS, ?_⟩
 refine ⟨_, rfl, _, _, rfl, rfl, (by show (0 : Int) < 5; decide), rfl, _, rfl, QdI (fun _ => ?_) (fun _ => ?_)⟩
 ·exact q .non .non H (Same.refl H) rfl trivial
 ·refine ⟨_, rfl, _, _, rfl, rfl, (by show (0 : Int) < 5; decide), rfl, _, rfl, QdI (fun _ => ?_) (fun _ => ?_)⟩
  ·refine ⟨_, rfl, _, rfl, _, _, rfl, rfl, a, ns, k + 1, rfl, hS, fun i h1 h2 => ?_⟩
   exact q (.num i) (.int i) H (Same.refl H) rfl ⟨h1, h2⟩
  ·refine ⟨_, rfl, _, _, rfl, rfl, ⟨by decide, by decide⟩, _, rfl, _, _, rfl, rfl, (by show (0 : Int) < many; omega), _, _, rfl, rfl, zl, fun l hl => ?_⟩
   have h1 := Int.emod_nonneg (drw ns k / 5) (show many ≠ 0 by omega)
   have h2 := Int.emod_lt_of_pos (drw ns k / 5) (show (0 : Int) < many by omega)
   exact q (.box (1 + drw ns k / 5 % many)) (.ref l) _ (Same.new hl) ⟨l, rfl, Qb⟩ ⟨by omega, by omega⟩
theorem QeL {f : Addr} (F : Fun K "_law_slots" "_law_slots" Qba f fd) (T : TX K mg C) (D1_ : DefOk P w K mg base n "_law_draw" ["script", "k"] (Qcj K) [[]]) :
  FnOk P w K mg base CX0 (n + 1) f fd ["script", "count", "many"] (QhQ K) := by
 refine F.ok QW (by rintro _ _ _ _ ⟨_, _, _, _, rfl, _⟩; rfl) fun _ _ _ s H vs Q E hr h => ?_
 obtain ⟨a, ns, count, many, rfl, hS, hc0, hc1, hm, q⟩ := h
 have hu := QC hr
 refine ⟨_, (Qc (Qq (i := 3) QW.nd rfl (Or.inl rfl) (ZR Qe))
  (Qc (Za PassesOwn.never rfl (Zb (by rfl) T.g_range (Qa (pv 1) Qe)) (QS (i := 4) QW.nd rfl (Or.inl rfl))
  (Qc (Qq (i := 5) QW.nd rfl (Or.inl rfl) (qc D1_ hr (Qa (pv 0) (Qa (Qz QaH Qi (pv 4)) Qe))))
  (Qc (Qq (i := 6) QW.nd rfl (Or.inl rfl) QcD)
  (Qc (QZ (Qp QaJ (Qz QV (pv 5) Qi) Qi (QF _)) (Qh (Qq (i := 6) QW.nd rfl (Or.inl rfl) (Qan (Qa Z1 (Qa (Qz QaH Qi (Qz QV (Qz QaG (pv 5) Qi) (pv 2))) Qe))))) Qn)
  (Qc (QZ (Qp QaJ (Qz QV (pv 5) Qi) Qi (QF _)) (Qh (Qq (i := 6) QW.nd rfl (Or.inl rfl) (Qz QV (Qz QaG (pv 5) Qi) Qi))) Qn)
  (Qh (Qk (QcF PySem.F.plainAttrs_list PySem.F.slot_list_append PySem.F.type_list_append Qaf (pv 3) (Qa (pv 6) Qe)))))))))
  (Qh (Qs (pv 3))))), ?_⟩
 refine ⟨Nat.zero_le _, fun l hl => ?_⟩
 refine ⟨_, rfl, count, rfl, by omega, by omega, QaI (n := count.toNat) (fun i σ H' => ∃ v_k v_cell v_thing, σ = [some (.ref a), some (.int count), some (.int many), some (.ref l), v_k, v_cell, v_thing] ∧ Same H H' ∧
  ∃ ts, ThL H' ts l ∧ ts.length = i ∧ ∀ t ∈ ts, TOk many t) ?_ ?_ ?_⟩
 ·exact ⟨_, _, _, rfl, Same.new hl, [], ⟨[], Qb, .nil⟩, rfl, by simp⟩
 ·rintro i σ H1 hi ⟨v1, v2, v3, rfl, s1, ts, ⟨vs, hv, ht⟩, hlen, hts⟩
  have hS1 := hS.keep (Frz.of_same s1)
  refine ⟨_, rfl, _, rfl, _, _, rfl, rfl, a, ns, _, rfl, hS1, ?_⟩
  generalize drw ns (700 + (0 + (i : Int))) = c
  have hvl : vs.length = i := by rw [← hlen]; exact (pr_len ht).symm
  have fin : ∀ (t : LW.T) (v : V) (H2 : Hp), Same H1 H2 → isT H2 t v → TOk many t → H2 l = some (.lst vs) ∧ vs.length < sizeLine ∧ (Same H (upd H2 l (.lst (vs ++ [v]))) ∧ ∃ ts, ThL (upd H2 l (.lst (vs ++ [v]))) ts l ∧ ts.length = i + 1 ∧ ∀ t ∈ ts, TOk many t) := fun t v H2 s2 tv ok => by
   have h2 := s2 _ _ hv
   have tu : Tups H2 (upd H2 l (.lst (vs ++ [v]))) := Tups.upd h2 (by intro xs z; cases z)
   refine ⟨h2, QK (by omega), fun b o e => ?_, ts ++ [t], ⟨_, Qb, Ths.keep tu (Qci (Ths.keep (Tups.of_same s2) ht) (.cons tv .nil))⟩, by simp [hlen], fun x hx => ?_⟩
   ·rw [Qf (Qd e hl)]; exact s2 _ _ (s1 _ _ e)
   ·rcases List.mem_append.mp hx with z | z
    ·exact hts x z
    ·rw [List.mem_singleton.mp z]; exact ok
  refine ⟨_, rfl, _, _, rfl, rfl, (by show (0 : Int) < 3; decide), rfl, _, rfl, QdI (fun _ => ?_) (fun _ => ?_)⟩
  ·refine ⟨_, rfl, _, _, rfl, rfl, ⟨by decide, by decide⟩, _, rfl, _, _, rfl, rfl, (by show (0 : Int) < many; omega), _, _, rfl, rfl, zl, fun b hb => ?_⟩
   have h1 := Int.emod_nonneg (c / 3) (show many ≠ 0 by omega)
   have h2 := Int.emod_lt_of_pos (c / 3) (show (0 : Int) < many by omega)
   refine ⟨_, rfl, _, _, rfl, rfl, (by show (0 : Int) < 7; decide), rfl, _, rfl, QdI (fun _ => ?_) (fun _ => ?_)⟩
   ·refine ⟨_, rfl, _, _, rfl, rfl, ⟨by decide, by decide⟩, _, _, rfl, rfl, (by show (0 : Int) < 100; decide), ?_⟩
    obtain ⟨f1, f2, f3, f4⟩ := fin (.num (c / 7 % 100)) (.int (c / 7 % 100)) _ (Same.new hb) rfl (Qj7 _ (by omega) (by omega))
    exact ⟨_, rfl, .inl ⟨rfl, _, SqL.of f1⟩, _, rfl, l, _, _, rfl, rfl, f1, f2, ⟨_, _, _, rfl, f3, f4⟩⟩
   ·obtain ⟨f1, f2, f3, f4⟩ := fin (.box (1 + c / 3 % many)) (.ref b) _ (Same.new hb) ⟨b, rfl, Qb⟩ ⟨by omega, by omega⟩
    exact ⟨_, rfl, .inl ⟨rfl, _, SqL.of f1⟩, _, rfl, l, _, _, rfl, rfl, f1, f2, ⟨_, _, _, rfl, f3, f4⟩⟩
  ·refine ⟨_, rfl, _, _, rfl, rfl, (by show (0 : Int) < 7; decide), rfl, _, rfl, QdI (fun _ => ?_) (fun _ => ?_)⟩
   ·refine ⟨_, rfl, _, _, rfl, rfl, ⟨by decide, by decide⟩, _, _, rfl, rfl, (by show (0 : Int) < 100; decide), ?_⟩
    obtain ⟨f1, f2, f3, f4⟩ := fin (.num (c / 7 % 100)) (.int (c / 7 % 100)) _ (Same.refl _) rfl (Qj7 _ (by omega) (by omega))
    exact ⟨_, rfl, .inl ⟨rfl, _, SqL.of f1⟩, _, rfl, l, _, _, rfl, rfl, f1, f2, ⟨_, _, _, rfl, f3, f4⟩⟩
   ·obtain ⟨f1, f2, f3, f4⟩ := fin .non .non _ (Same.refl _) rfl trivial
    exact ⟨_, rfl, .inl ⟨rfl, _, SqL.of f1⟩, _, rfl, l, _, _, rfl, rfl, f1, f2, ⟨_, _, _, rfl, f3, f4⟩⟩
 ·rintro σ H1 ⟨v1, v2, v3, rfl, s1, ts, ht, hlen, hts⟩
  exact ⟨_, rfl, q l ts H1 s1 hl ht (by omega) hts⟩
theorem QdD : QD (Qg ZZ) ["script", "many", "kinds", "rows", "name", "cell", "size"] (QP ((Qbq (QeR (QeA (QeR (Qo ZZ) 2)) 3)))) "at" ["script", "many", "name"] [0, 1, 4] :=
 bsk
theorem QeO {f : Addr} (F : Fun K "_law_graph" "_law_graph" ZZ f fd) (T : TX K mg C) (D1_ : DefOk P w K mg base n "_law_draw" ["script", "k"] (Qcj K) [[]])
  (D2_ : DefOk P w K mg base n "_law_thing" ["script", "k", "many"] (QhO K) [[]]) :
  FnOk P w K mg base CX0 (n + 1) f fd ["script", "many"] (Qh1 K) := by
 refine F.ok Zd (by rintro _ _ _ _ ⟨_, _, _, rfl, _⟩; rfl) fun _ _ _ s H vs Q E hr h => ?_
 obtain ⟨a, ns, many, rfl, hS, hm1, hm2, q⟩ := h
 have hu := QC hr
 refine ⟨_, (Qc (Qq (i := 2) Zd.nd rfl (Or.inl rfl) Qaq)
  (Qc (Qq (i := 3) Zd.nd rfl (Or.inl rfl) Qaq)
  (Qc (Za PassesOwn.never rfl (Qia (by rfl) T.g_range (Qa Qi (Qa (Qz QaH (pv 1) Qi) Qe))) (QS (i := 4) Zd.nd rfl (Or.inr rfl))
  (Qc (Qq (i := 5) Zd.nd rfl (Or.inl rfl) (qc D1_ hr (Qa (pv 0) (Qa (Qz Qf2 Qi (pv 4)) Qe))))
  (Qc (Qbh hu (pv 2) (pv 4) (QG QI (ZR (Qa Z1 (Qa Z1 (Qa Z1 (Qa Z1 Qe))))) (Qz QV (pv 5) Qi) (fun _ _ => rfl)) rfl)
  (Qc (Qq (i := 6) Zd.nd rfl (Or.inl rfl) (QG QI (ZR (Qa (Qz QV (Qz QaG (pv 5) Qi) Qi) (Qa Qi (Qa Qi (Qa (Qz QV (Qz QaG (pv 5) Qi) Qi) Qe))))) (Qz QV (pv 5) Qi) (fun _ _ => rfl)))
  (Qh (Qbh hu (pv 3) (pv 4) (QaZ QdD rfl (Zb (by rfl) T.g_range (Qa (pv 6) Qe)) (fun _ _ _ _ => QaM) (fun _ _ _ _ => (qc D2_ hr (Qa (pv 1) (Qa (Qz QaH (Qz QaH (Qz Qf2 Qi (pv 3)) Qi) (pv 0)) (Qa (pv 2) Qe)))))) rfl))))))
  (Qh (Qs (Qan (Qa (pv 2) (Qa (pv 3) Qe)))))))), ?_⟩
 refine fun ak hak => ?_
 refine fun ar har => ?_
 have hra : ar ≠ ak := fun e => by rw [e, Qb] at har; cases har
 have har0 : H ar = none := (Same.new hak).free har
 refine ⟨_, rfl, _, _, rfl, rfl, 1, many + 1, rfl, ⟨by decide, by decide, by omega, by omega⟩, ?_⟩
 have em : (many + 1 - 1).toNat = many.toNat := by omega
 rw [em]
 refine QaI (lo := 1) (n := many.toNat) (fun i σ H' => ∃ v_name v_cell v_size, σ = [some (.ref a), some (.int many), some (.ref ak), some (.ref ar), v_name, v_cell, v_size] ∧ Same H H' ∧
  ∃ bs, RecNew H H' ak ar bs ∧ bs.map (·.name) = QH 1 i ∧ ∀ b ∈ bs, BOk many b) ?_ ?_ ?_
 ·refine ⟨_, _, _, rfl, (Same.new hak).trans (Same.new har), [], ⟨[], Zt Qb har, Qb, .nil, by simp [hra.symm], ?_⟩, rfl, by simp⟩
  intro b hb
  have hb : b = ak ∨ b = ar := by simpa using hb
  rcases hb with rfl | rfl
  ·exact hak
  ·exact har0
 ·rintro i σ H1 hi ⟨v1, v2, v3, rfl, s1, bs, hR, hnm, hok⟩
  have hS1 := hS.keep (Frz.of_same s1)
  refine ⟨_, rfl, _, rfl, _, _, rfl, rfl, .inl ⟨by decide, by decide⟩, a, ns, _, rfl, hS1, ?_⟩
  generalize drw ns (10 * (1 + (i : Int))) = c
  obtain ⟨kd, sz, hk1, hk2, hkd, hz0, hz8, hsz⟩ := menu4 c
  have hR0 := hR
  obtain ⟨fl, e1, e2, pf, nd, fr⟩ := hR
  have hl := pr_len pf
  have hbl : bs.length = i := by have := congrArg List.length hnm; rw [QJ] at this; simpa using this
  have hout : (1 + (i : Int)) ∉ bs.map (·.name) := by rw [hnm, Qat]; omega
  refine ⟨zl, fun l1 hl1 => ⟨_, rfl, _, _, rfl, rfl, (by show (0 : Int) < 4; decide), l1, _, _, _, rfl, rfl, SqL.of Qb, hk1, ?_⟩⟩
  refine ⟨_, rfl, _, rfl, ak, _, rfl, DPut.k (k := Sum.inl (1 + (i : Int))) (Zt e1 hl1) (by simp only [Qr, List.length_map]; exact QK (by omega)), ?_⟩
  have s2 : Same H1 (upd H1 l1 (.lst [V.str "plain", V.str "weak", V.str "pair", V.str "plain"])) := Same.new hl1
  generalize eH2 : upd (upd H1 l1 (.lst [V.str "plain", V.str "weak", V.str "pair", V.str "plain"])) ak (.dK (QbK (Qr bs) (Sum.inl (1 + (i : Int))) (.str kd))) = H2
  have sH2 : Same H H2 := fun b o e => by
   rw [← eH2, Qf (Qd e hak)]; exact s2 _ _ (s1 _ _ e)
  refine ⟨_, rfl, _, _, rfl, rfl, ⟨by decide, by decide⟩, _, _, rfl, rfl, (by show (0 : Int) < 9; decide), _, rfl, _, _, rfl, rfl, ⟨by decide, by decide⟩, _, _, rfl, rfl, (by show (0 : Int) < 3; decide), zl, fun l2 hl2 => ?_⟩
  refine ⟨_, rfl, _, _, rfl, rfl, (by show (0 : Int) < 4; decide), l2, _, _, _, rfl, rfl, SqL.of Qb, hk2, ?_⟩
  have s3 : Same H2 (upd H2 l2 (.lst [V.int (c / 4 % 9), V.int 1, V.int 2, V.int (c / 4 % 3)])) := Same.new hl2
  generalize upd H2 l2 (.lst [V.int (c / 4 % 9), V.int 1, V.int 2, V.int (c / 4 % 3)]) = H3 at s3 ⊢
  refine ⟨_, rfl, sz, rfl, by omega, by omega, ?_⟩
  refine Qa6 (lo := 0) (n := sz.toNat) (fun j ys H' => Same H3 H' ∧ ∃ ts, Ths H' ts ys ∧ ts.length = j ∧ ∀ t ∈ ts, TOk many t) ⟨Same.refl _, [], .nil, rfl, by simp⟩ ?_ (Zr (by omega)) ?_ ?_
  ·rintro j ys H' ⟨_, ts, ht, hj, _⟩
   rw [← pr_len ht, hj]; exact Nat.le_refl _
  ·rintro j ys H' hj ⟨s4, ts, ht, htl, hts⟩
   dsimp only [Qfc]
   have hS4 := (hS.keep (Frz.of_same sH2)).keep (Frz.of_same (s3.trans s4))
   refine Qcd ⟨_, rfl, _, rfl, _, _, rfl, rfl, .inl ⟨by decide, by decide⟩, _, _, rfl, rfl, _, rfl, _, _, rfl, rfl, _, rfl, a, ns, _, many, rfl, hS4, hm1, fun t v H5 s5 tv ok => ?_⟩
   refine ⟨s4.trans s5, ts ++ [t], Qci (Ths.keep (Tups.of_same s5) ht) (.cons tv .nil), by simp [htl], fun x hx => ?_⟩
   rcases List.mem_append.mp hx with z | z
   ·exact hts x z
   ·rw [List.mem_singleton.mp z]; exact ok
  ·rintro ys H4 ⟨s4, ts, ht, htl, hts⟩ r hr4
   have r2 : H2 ar = some (.dK (Qm bs fl)) := by rw [← eH2, Qf hra]; exact s2 _ _ e2
   have s34 : Same H2 (upd H4 r (.lst ys)) := (s3.trans s4).trans (Same.new hr4)
   refine ⟨_, rfl, _, rfl, ar, _, rfl, DPut.k (k := Sum.inl (1 + (i : Int))) (s34 _ _ r2) (by rw [Qm, List.length_map, List.length_zip]; exact QK (by omega)), ?_⟩
   refine ⟨_, _, _, rfl, fun b o e => ?_, bs ++ [⟨1 + (i : Int), kd, ts⟩], ?_, ?_, ?_⟩
   ·rw [Qf (Qd e har0)]; exact s34 _ _ (sH2 _ _ e)
   ·refine hR0.snoc (b := ⟨1 + (i : Int), kd, ts⟩) (a := r) s2 hout eH2.symm s34 ⟨ys, Qb, Ths.keep (Tups.new hr4) ht⟩ ((s3.trans s4).free hr4) sH2 fun fl' h => ?_
    rw [HO.dK.inj (Option.some.inj (h.symm.trans (s34 _ _ r2)))]
   ·rw [List.map_append, hnm, Qct]; rfl
   ·intro b hb
    rcases List.mem_append.mp hb with z | z
    ·exact hok b z
    ·rw [List.mem_singleton.mp z]
     exact ⟨hkd, by show ZQ kd (ts.length : Int) = (ts.length : Int); rw [show (ts.length : Int) = sz by omega]; exact hsz, by show ts.length ≤ 8; omega, hts⟩
 ·rintro σ H1 ⟨v1, v2, v3, rfl, s1, bs, hR, hnm, hok⟩
  refine ⟨_, rfl, _, rfl, zl, fun m hm => ?_⟩
  exact q m ak ar bs _ (s1.trans (Same.new hm)) Qb (hR.same (Same.new hm)) hnm hok
theorem QeM {f : Addr} {t_mk1 t_mk2 t_sl : Tok} (F : Fun K "_law_house" "_law_house" Qbb f fd) (T : TX K mg C) (D1_ : MakeOk P w K mg base C n ["self", "room", "slots"] (QjU C) [[], [.int 4 t_sl]])
  (M2_ : MethOk P w K mg base C n "make" ["self", "kind", "size", "slot"] (QhU C) [[], [.int 0 t_mk1, .int 0 t_mk2], [.int 0 t_mk2]])
  (M3_ : MethOk P w K mg base C n "put" ["self", "name", "at", "thing"] (Qje C) [[]])
  (M4_ : MethOk P w K mg base C n "hold" ["self", "slot", "thing"] (QhZ C) [[]]) :
  FnOk P w K mg base CX0 (n + 1) f fd ["kinds", "rows", "slots", "extra"] (QhX C) := by
 obtain ⟨fI1_, fdI1_, jI1_, hjI1_, MK1_, GI1_, bI1_⟩ := D1_
 refine F.ok Zc (by rintro _ _ _ _ ⟨_, _, _, _, _, _, _, rfl, _⟩; rfl) fun _ _ _ s H vs Q E hr h => ?_
 obtain ⟨ak, ar, as, fl, bs, ts, extra, rfl, hk, hr', pf, hs, hnm, h64, hok, ht1, ht2, hts, hx, q⟩ := h
 have hu := QC hr
 refine ⟨_, (Qc (Qq (i := 4) Zc.nd rfl (Or.inl rfl) (Qic MK1_ GI1_ (hr.mono hjI1_) (by rfl) T.g_house (bI1_ [] (by simp)) .nil QgC (Qa (Qz QaH (Qy Qgk (by rfl) T.g_len PySem.boot_len (Qa (pv 0) Qe)) (pv 3)) (Qa (Qy Qt (by rfl) T.g_len PySem.boot_len (Qa (pv 2) Qe)) Qe))))
  (Qc (Za PassesOwn.never rfl (QR (Qy (QbU hr.hd) (by rfl) T.g_sorted PyProof.Rows.boot_sorted (Qa (pv 0) Qe))) (QS (i := 5) Zc.nd rfl (Or.inl rfl))
  (Qh (Qk (qm M2_ (pv 4) T.cl hr (Qa (Z9 hu (pv 0) (pv 5) (fun _ _ => rfl)) (Qa (Qy Qt (by rfl) T.g_len PySem.boot_len (Qa (Z9 hu (pv 1) (pv 5) (fun _ _ => rfl)) Qe)) (Qa Qi Qe)))))))
  (Qc (Za PassesOwn.never rfl (QR (Qy (QbU hr.hd) (by rfl) T.g_sorted PyProof.Rows.boot_sorted (Qa (pv 1) Qe))) (QS (i := 5) Zc.nd rfl (Or.inl rfl))
  (Qh (Za PassesOwn.never rfl (Qfl (by rfl) T.g_enumerate (Qa (Z9 hu (pv 1) (pv 5) (fun _ _ => rfl)) Qe)) (Qed rfl Zc.nd (i := 6) (j := 7) rfl rfl (Or.inl rfl) (Or.inl rfl))
  (Qh (Qk (qm M3_ (pv 4) T.cl hr (Qa (pv 5) (Qa (pv 6) (Qa (pv 7) Qe)))))))))
  (Qc (Za PassesOwn.never rfl (Qfl (by rfl) T.g_enumerate (Qa (pv 2) Qe)) (Qed rfl Zc.nd (i := 8) (j := 7) rfl rfl (Or.inl rfl) (Or.inl rfl))
  (Qh (Qk (qm M4_ (pv 4) T.cl hr (Qa (pv 8) (Qa (pv 7) Qe))))))
  (Qh (Qs (pv 4))))))), ?_⟩
 obtain ⟨ws, hw, htw⟩ := hs
 have hkl : (Qr bs).length = bs.length := by simp [Qr]
 have hnd : (bs.map (·.name)).Nodup := by rw [hnm]; exact (Qb4 _ _).imp fun z => Int.ne_of_lt z
 have hfl := pr_len pf
 refine ⟨_, rfl, ak, _, rfl, hk, _, rfl, _, _, rfl, rfl, _, rfl, as, _, rfl, .inl (SqL.of hw), fun x dx nx ndx nex => ?_⟩
 rw [hkl, ← pr_len htw]
 refine ⟨x, dx, _, _, rfl, Qb, by omega, by omega, fun A1 H1 hh1 fr1 tu1 gr1 => ⟨rfl, ?_⟩⟩
 have s1 : Same H H1 := fun b o e => fr1 b o (Qbk (Zt e ndx) (Qd e nx)) (by simpa using Qd e nx)
 have f1 : ∀ b ∈ A1.foot x, H b = none := fun b hb => by
  rcases gr1 b hb with z | z
  ·rw [List.mem_singleton.mp z]; exact nx
  ·exact Qaj (Qaj z)
 have rk : ∀ {H' : Hp}, Same H H' → H' ak = some (.dK (Qr bs)) := fun s => s _ _ hk
 have rr : ∀ {H' : Hp}, Same H H' → H' ar = some (.dK (Qm bs fl)) := fun s => s _ _ hr'
 refine ⟨_, rfl, ak, _, QH 1 bs.length, rfl, rk s1, by rw [Qaa, hnm], by rw [QJ]; exact h64, fun l ns' hl hp hs => ?_⟩
 rw [QdG hp hs (Qb4 _ _)]
 refine ⟨l, rfl, ⟨_, SqL.of Qb⟩, ?_⟩
 have s2 := s1.trans (Same.new (o := .lst ((QH 1 bs.length).map V.int)) hl)
 have hl0 : l ∉ A1.foot x := hh1.out hl
 have hh2 := hh1.new (o := .lst ((QH 1 bs.length).map V.int)) hl
 refine Zv (K := K) (xs := (QH 1 bs.length).map V.int) (fun i σ H' => ∃ v_name v_at v_thing v_slot A S, σ = [some (.ref ak), some (.ref ar), some (.ref as), some (.int extra), some (.ref x), v_name, v_at, v_thing, v_slot] ∧ Same H H' ∧ (∀ b ∈ HA.foot A x, H b = none) ∧
  H' l = some (.lst ((QH 1 bs.length).map V.int)) ∧ l ∉ HA.foot A x ∧ HouseAt C H' x A ⟨bs.length + extra, S, i, (bs.take i).map Box.blank, e4, e4⟩ ∧ S.length = ts.length) ?_ ?_ ?_ ?_
 ·exact ⟨_, _, _, _, A1, List.replicate (ts.length : Int).toNat .non, rfl, s2, f1, Qb, hl0, hh2, by simp⟩
 ·rintro i σ H' _ ⟨_, _, _, _, A, S, rfl, s, f, h, n, hh, hS⟩
  exact SqL.of h
 ·rintro i y σ H' hy ⟨v1, v2, v3, v4, A, S, rfl, s, f, h, n, hh, hS⟩
  obtain ⟨hi, rfl⟩ := Qf9 hy
  obtain ⟨b, hb⟩ : ∃ b, bs[i]? = some b := ⟨bs[i], List.getElem?_eq_getElem hi⟩
  obtain ⟨hbn, _⟩ := Qim hnm hb
  have hbo := hok b (List.mem_of_getElem? hb)
  obtain ⟨a, ha, vs, hv, htv⟩ := Q6 pf hb
  rw [← hbn]
  have hlen := pr_len htv
  have hle := hbo.le
  refine ⟨_, rfl, x, A.dx, _, rfl, hh.ob, Ql, _, rfl, _, rfl, ak, .str b.kind, rfl, ?_, ?_⟩
  ·rw [← kindAt hnd hb]; exact DGet.k (k := Sum.inl b.name) (rk s)
  refine ⟨_, rfl, _, rfl, ar, .ref a, rfl, ?_, a, vs, rfl, .inl (SqL.of (s _ _ hv)), ?_⟩
  ·rw [← rowAt hfl hnd hb ha]; exact DGet.k (k := Sum.inl b.name) (rr s)
  rw [← hlen]
  have hsz := hbo.sz
  refine ⟨x, A, _, b.kind, b.row.length, 0, rfl, hh, by rw [hsz]; omega, by rw [hsz]; omega, by show ((bs.take i).map Box.blank).length ≤ 1000; rw [List.length_map, List.length_take]; omega, by show (((bs.take i).map Box.blank).length : Int) < bs.length + extra; rw [List.length_map, List.length_take]; omega, by show 0 < S.length; omega, fun A2 H2 hh2 fr2 tu2 gr2 => ?_⟩
  obtain ⟨g1, g2, g3, g4⟩ := QdS (C := C) (S := HS.empty 0 0) s f h n fr2 gr2
  refine ⟨_, _, _, _, A2, S.set 0 (.box ((i : Int) + 1)), rfl, g1, g2, g3, g4, ?_, ?_⟩
  ·rw [hsz] at hh2
   have e : (HS.made ⟨bs.length + extra, S, i, (bs.take i).map Box.blank, e4, e4⟩ b.kind (b.row.length : Int).toNat 0) = ⟨bs.length + extra, S.set 0 (.box ((i : Int) + 1)), ((i + 1 : Nat) : Int), (bs.take (i + 1)).map Box.blank, e4, e4⟩ := by
    rw [QhA bs i b hb]
    unfold HS.made HS.built
    simp only [Int.toNat_natCast, HS.mk.injEq, true_and]
    refine ⟨by omega, ?_, trivial⟩
    congr 1
    unfold Box.blank
    rw [hbn]
    congr 1
    congr 1
    omega
   rw [e] at hh2
   exact hh2
  ·simp [hS]
 ·rintro σ H3 ⟨v1, v2, v3, v4, A, S, rfl, s, f, h, n, hh, hS⟩
  have en : (((QH 1 bs.length).map V.int).length) = bs.length := by rw [List.length_map, QJ]
  rw [en, List.take_length] at hh
  refine ⟨_, rfl, ar, _, QH 1 bs.length, rfl, rr s, by rw [Qag hfl, hnm], by rw [QJ]; exact h64, fun l2 ns2 hl2 hp2 hs2 => ?_⟩
  rw [QdG hp2 hs2 (Qb4 _ _)]
  refine ⟨l2, rfl, ⟨_, SqL.of Qb⟩, ?_⟩
  have s4 := s.trans (Same.new (o := .lst ((QH 1 bs.length).map V.int)) hl2)
  have hl3 : l2 ∉ A.foot x := hh.out hl2
  have hh4 := hh.new (o := .lst ((QH 1 bs.length).map V.int)) hl2
  have h4 : (upd H3 l2 (.lst ((QH 1 bs.length).map V.int))) l2 = some (.lst ((QH 1 bs.length).map V.int)) := Qb
  generalize upd H3 l2 (.lst ((QH 1 bs.length).map V.int)) = H4 at s4 hh4 h4 ⊢
  refine Zv (K := K) (xs := (QH 1 bs.length).map V.int) (fun i σ H' => ∃ v_name v_at v_thing v_slot A S, σ = [some (.ref ak), some (.ref ar), some (.ref as), some (.int extra), some (.ref x), v_name, v_at, v_thing, v_slot] ∧ Same H H' ∧ (∀ b ∈ HA.foot A x, H b = none) ∧
   H' l2 = some (.lst ((QH 1 bs.length).map V.int)) ∧ l2 ∉ HA.foot A x ∧ HouseAt C H' x A ⟨bs.length + extra, S, bs.length, ZF bs i 0, e4, e4⟩ ∧ S.length = ts.length) ?_ ?_ ?_ ?_
  ·exact ⟨_, _, _, _, A, S, rfl, s4, f, h4, hl3, by rw [Qh6]; exact hh4, hS⟩
  ·rintro i σ H' _ ⟨_, _, _, _, A, S, rfl, s, f, h, n, hh, hS⟩
   exact SqL.of h
  ·clear hS hh hh4 f n s s4 h4 h hl3 v1 v2 v3 v4
   rintro i y σ H' hy ⟨v1, v2, v3, v4, A, S, rfl, s, f, h, n, hh, hS⟩
   obtain ⟨hi, rfl⟩ := Qf9 hy
   obtain ⟨b, hb⟩ : ∃ b, bs[i]? = some b := ⟨bs[i], List.getElem?_eq_getElem hi⟩
   obtain ⟨hbn, _⟩ := Qim hnm hb
   have hbo := hok b (List.mem_of_getElem? hb)
   obtain ⟨a, ha, vs, hv, htv⟩ := Q6 pf hb
   rw [← hbn]
   have hlen := pr_len htv
   refine ⟨_, rfl, _, rfl, ar, .ref a, rfl, ?_, a, vs, rfl, s _ _ hv, ?_⟩
   ·rw [← rowAt hfl hnd hb ha]; exact DGet.k (k := Sum.inl b.name) (rr s)
   refine QdL (xs := vs) (fun j σ H' => ∃ v_at v_thing v_slot A S, σ = [some (.ref ak), some (.ref ar), some (.ref as), some (.int extra), some (.ref x), some (.int b.name), v_at, v_thing, v_slot] ∧ Same H H' ∧ (∀ b ∈ HA.foot A x, H b = none) ∧
    H' l2 = some (.lst ((QH 1 bs.length).map V.int)) ∧ l2 ∉ HA.foot A x ∧ HouseAt C H' x A ⟨bs.length + extra, S, bs.length, ZF bs i j, e4, e4⟩ ∧ S.length = ts.length) ?_ ?_ ?_ ?_
   ·exact ⟨_, _, _, A, S, rfl, s, f, h, n, hh, hS⟩
   ·rintro j σ H' _ ⟨_, _, _, A, S, rfl, s, f, h, n, hh, hS⟩
    exact s _ _ hv
   ·clear hS hh f n s h v1 v2 v3 v4
    rintro j y σ H' q1 hy ⟨v1, v2, v3, A, S, rfl, s, f, h, n, hh, hS⟩ hq1
    obtain ⟨t, ht, tv⟩ := pr_getR htv hy
    have hj := (List.getElem?_eq_some_iff.mp ht).1
    have s2 := s.trans (Same.new (o := .tup [.int (j : Int), y]) hq1)
    have hh2 := hh.new (o := .tup [.int (j : Int), y]) hq1
    have h2 := Zt (o := .tup [.int (j : Int), y]) h hq1
    have htu := (Qb (H := H') (a := q1) (o := .tup [.int (j : Int), y]))
    generalize upd H' q1 (.tup [.int (j : Int), y]) = H5 at s2 hh2 h2 htu ⊢
    refine ⟨q1, _, _, rfl, htu, ?_⟩
    refine ⟨_, rfl, x, A.dx, _, rfl, hh2.ob, Ql, _, rfl, _, rfl, _, rfl, x, A, _, i, ⟨b.name, b.kind, b.row.take j ++ List.replicate (b.row.length - j) .non⟩, j, y, t, rfl, hh2, QcB hb, ?_, tv.keep (Tups.of_same s2), ?_, fun A2 H2 hh3 fr2 tu2 gr2 => ?_⟩
    ·simp only [List.length_append, List.length_take, List.length_replicate]; omega
    ·intro n' e
     subst e
     have := hbo.ts _ (List.mem_of_getElem? ht)
     show n' ∈ (ZF bs i j).map (·.name)
     rw [Qgy, hnm, Qat]
     exact ⟨this.1, by have := this.2; omega⟩
    obtain ⟨g1, g2, g3, g4⟩ := QdS (C := C) (S := HS.empty 0 0) s2 f h2 n fr2 gr2
    have e : HS.put ⟨bs.length + extra, S, bs.length, ZF bs i j, e4, e4⟩ i j t = ⟨bs.length + extra, S, bs.length, ZF bs i (j + 1), e4, e4⟩ := by
     unfold HS.put
     simp only [Qhi hb ht]
    rw [e] at hh3
    exact ⟨_, _, _, A2, S, rfl, g1, g2, g3, g4, hh3, hS⟩
   ·rintro σ H' ⟨v1, v2, v3, A, S, rfl, s, f, h, n, hh, hS⟩
    rw [← hlen, Qgx hb] at hh
    exact ⟨_, _, _, _, A, S, rfl, s, f, h, n, hh, hS⟩
  ·clear hS hh hh4 f n s s4 h4 h hl3 v1 v2 v3 v4
   rintro σ H' ⟨v1, v2, v3, v4, A, S, rfl, s, f, h, n, hh, hS⟩
   rw [en, Qhj] at hh
   refine ⟨_, rfl, as, ws, rfl, s _ _ hw, ?_⟩
   refine QdL (xs := ws) (fun j σ H' => ∃ v_name v_at v_thing v_slot A, σ = [some (.ref ak), some (.ref ar), some (.ref as), some (.int extra), some (.ref x), v_name, v_at, v_thing, v_slot] ∧ Same H H' ∧ (∀ b ∈ HA.foot A x, H b = none) ∧
    H' l2 = some (.lst ((QH 1 bs.length).map V.int)) ∧ l2 ∉ HA.foot A x ∧ HouseAt C H' x A ⟨bs.length + extra, ts.take j ++ S.drop j, bs.length, bs, e4, e4⟩) ?_ ?_ ?_ ?_
   ·exact ⟨_, _, _, _, A, rfl, s, f, h, n, by simpa using hh⟩
   ·rintro j σ H' _ ⟨_, _, _, _, A, rfl, s, f, h, n, hh⟩
    exact s _ _ hw
   ·clear hh f n s h v1 v2 v3 v4
    rintro j y σ H' q1 hy ⟨v1, v2, v3, v4, A, rfl, s, f, h, n, hh⟩ hq1
    obtain ⟨t, ht, tv⟩ := pr_getR htw hy
    have hj := (List.getElem?_eq_some_iff.mp ht).1
    have s2 := s.trans (Same.new (o := .tup [.int (j : Int), y]) hq1)
    have hh2 := hh.new (o := .tup [.int (j : Int), y]) hq1
    have h2 := Zt (o := .tup [.int (j : Int), y]) h hq1
    have htu := (Qb (H := H') (a := q1) (o := .tup [.int (j : Int), y]))
    generalize upd H' q1 (.tup [.int (j : Int), y]) = H5 at s2 hh2 h2 htu ⊢
    refine ⟨q1, _, _, rfl, htu, ?_⟩
    refine ⟨_, rfl, x, A.dx, _, rfl, hh2.ob, Ql, _, rfl, _, rfl, x, A, _, j, y, t, rfl, hh2, ?_, tv.keep (Tups.of_same s2), ?_, fun A2 H2 hh3 fr2 tu2 gr2 => ?_⟩
    ·simp only [List.length_append, List.length_take, List.length_drop]; omega
    ·intro n' e
     subst e
     have := hts _ (List.mem_of_getElem? ht)
     show n' ∈ bs.map (·.name)
     rw [hnm, Qat]
     exact ⟨this.1, by have := this.2; omega⟩
    obtain ⟨g1, g2, g3, g4⟩ := QdS (C := C) (S := HS.empty 0 0) s2 f h2 n fr2 gr2
    have e : HS.hold ⟨bs.length + extra, ts.take j ++ S.drop j, bs.length, bs, e4, e4⟩ j t = ⟨bs.length + extra, ts.take (j + 1) ++ S.drop (j + 1), bs.length, bs, e4, e4⟩ := by
     unfold HS.hold
     simp only [Qff ht (show j < S.length by omega)]
    rw [e] at hh3
    exact ⟨_, _, _, _, A2, rfl, g1, g2, g3, g4, hh3⟩
   ·rintro σ H' ⟨v1, v2, v3, v4, A, rfl, s, f, h, n, hh⟩
    have e : ts.take ws.length ++ S.drop ws.length = ts := by
     rw [← pr_len htw, List.take_length, List.drop_eq_nil_of_le (by omega), List.append_nil]
    rw [e] at hh
    exact ⟨_, rfl, q x A H' s hh f⟩
end
section
variable {C : Addr}
theorem Qdu {f : Addr} (F : Fun K "watch" "House.watch" Qay f fd) (T : TX K mg C) (M1_ : MethOk P w K mg base C n "check_guard" ["self", "guard"] (ZP C) [[]])
  (M2_ : MethOk P w K mg base C n "check_box" ["self", "name"] (Zu C) [[]]) :
  FnOk P w K mg base CX0 (n + 1) f fd ["self", "guard", "name"] (QhN C) := by
 refine F.ok Qdm (by rintro _ _ _ _ ⟨_, _, _, _, _, _, rfl, _⟩; rfl) fun _ _ _ s H vs Q E hr h => ?_
 obtain ⟨p, A', S, g, n', ns, rfl, hh, hg, hq, hn, hnot, hlen, k⟩ := h
 have hu := QC hr
 refine ⟨_, (Qc (Qk (qm M1_ (pv 0) T.cl hr (Qa (pv 1) Qe)))
  (Qc (Qk (qm M2_ (pv 0) T.cl hr (Qa (pv 2) Qe)))
  (Qc (QZ (Qp Qij (pv 2) (QG QI (Qw (pv 0) rfl) (pv 1) (fun _ _ => rfl)) rfl) (Qh Qbg) Qn)
  (Qh (Qk (QcF PySem.F.plainAttrs_list PySem.F.slot_list_append PySem.F.type_list_append Qaf (QG QI (Qw (pv 0) rfl) (pv 1) (fun _ _ => rfl)) (Qa (pv 2) Qe))))))), ?_⟩
 obtain ⟨a, ha, hi⟩ := Q6 hh.ql hq
 have hix : atI (A'.ql.map V.ref) (g : Int) = some (.ref a) := Zh (by rw [List.getElem?_map, ha]; rfl)
 refine ⟨_, rfl, p, A'.dx, _, rfl, hh.ob, Ql, _, rfl, p, g, rfl, by omega, by omega, ?_⟩
 refine ⟨_, rfl, p, A'.dx, _, rfl, hh.ob, Ql, _, rfl, p, A', S, n', rfl, hh, hn, ?_⟩
 refine ⟨_, rfl, _, rfl, p, C, A'.dx, _, _, rfl, hh.ob, T.cl, T.n_queues, Qa2, _, rfl, A'.qs, _, g, .ref a, rfl, rfl, SqL.of hh.qs, hix, a, _, rfl, .inl (SqL.of hi), rfl, QbT ns, _, rfl, QbS ?_ ?_⟩
 ·show inV (.int n') (ns.map V.int) = false
  rw [QcL]; exact decide_eq_false hnot
 refine ⟨_, rfl, p, C, A'.dx, _, _, rfl, hh.ob, T.cl, T.n_queues, Qa2, _, rfl, A'.qs, _, g, .ref a, rfl, rfl, SqL.of hh.qs, hix, .inl ⟨rfl, _, SqL.of hi⟩, _, rfl, a, _, _, rfl, rfl, hi, by rw [List.length_map]; exact QK (by omega), ?_⟩
 have e : ns.map V.int ++ [V.int n'] = (ns ++ [n']).map V.int := by simp
 rw [e]
 exact hh.outOne (by simp [HA.lists, List.mem_of_getElem? ha]) hi (hh.setQueue ha hi) k
theorem Qdt {f : Addr} (F : Fun K "words" "House.words" Qax f fd) (T : TX K mg C) (M1_ : MethOk P w K mg base C n "check_guard" ["self", "guard"] (ZP C) [[]]) :
  FnOk P w K mg base CX0 (n + 1) f fd ["self", "guard"] (Qgt C) := by
 refine F.ok Qdl (by rintro _ _ _ _ ⟨_, _, _, _, _, rfl, _⟩; rfl) fun _ _ _ s H vs Q E hr h => ?_
 obtain ⟨p, A', S, g, ns, rfl, hh, hg, hq, k⟩ := h
 have hu := QC hr
 refine ⟨_, (Qc (Qk (qm M1_ (pv 0) T.cl hr (Qa (pv 1) Qe)))
  (Qh (Qs (QcE Qdj (by rfl) T.g_list PyProof.Rows.boot_list (Qa (QG QI (Qw (pv 0) rfl) (pv 1) (fun _ _ => rfl)) Qe))))), ?_⟩
 obtain ⟨a, ha, hi⟩ := Q6 hh.tl hq
 refine ⟨_, rfl, p, A'.dx, _, rfl, hh.ob, Ql, _, rfl, p, g, rfl, by omega, by omega, ?_⟩
 refine ⟨_, rfl, p, C, A'.dx, _, _, rfl, hh.ob, T.cl, T.n_told, Qc2, _, rfl, A'.td, _, g, .ref a, rfl, rfl, SqL.of hh.td, Zh (by rw [List.getElem?_map, ha]; rfl), a, _, rfl, .inl (SqL.of hi), k⟩
end
section
variable {C : Addr}
end
section
variable {C CS : Addr}
theorem Qcp {f : Addr} (F : Fun K "add_row" "Search.add_row" ZX f fd) (T : TX K mg C) (TS : TSx K mg CS)  :
  FnOk P w K mg base CX0 (n + 1) f fd ["self", "row"] (Qb1 CS) := by
 refine F.ok Qcl (by rintro _ _ _ _ ⟨_, _, _, _, _, _, rfl, _⟩; rfl) fun _ _ _ s H vs Q E hr h => ?_
 obtain ⟨q, p, r, B, st, row, rfl, hs, hr', hlen, k⟩ := h
 have hu := QC hr
 refine ⟨_, (Qh (QZ (QaL (Qef hu (QG Q7 (pv 1) Qi (fun _ _ => rfl)) (Qw (pv 0) rfl))) (Qc (Qbh hu (Qw (pv 0) rfl) (QG Q7 (pv 1) Qi (fun _ _ => rfl)) Qdr rfl)
  (Qh (Qk (QcF PySem.F.plainAttrs_list PySem.F.slot_list_append PySem.F.type_list_append Qaf (Qw (pv 0) rfl) (Qa (pv 1) Qe))))) Qn)), ?_⟩
 obtain ⟨more, hvs⟩ := row.first
 have hix : atI row.vs 0 = some (.int row.nm) := by rw [hvs]; exact Zh (j := 0) rfl
 obtain ⟨vs, hv, pr⟩ := hs.rl
 refine ⟨_, rfl, r, _, 0, .int row.nm, rfl, rfl, SqT.of hr', hix, _, rfl, q, CS, B.dx, _, _, rfl, hs.ob, TS.cl, TS.n_listed, Qd1, B.ld, _, rfl, DGet.k (k := Sum.inl row.nm) hs.ld, _, rfl, ?_⟩
 rw [Qb3]
 by_cases hm : row.nm ∈ st.rows.map Rw.nm
 ·rw [decide_eq_true hm]
  have e : st.add row = st := if_pos hm
  rw [e] at k
  exact Qbz (k H hs (Frame.refl _ _) (Tups.refl _))
 ·rw [decide_eq_false hm]
  have e : st.add row = { st with rows := st.rows ++ [row] } := if_neg hm
  rw [e] at k
  have q1 : q ≠ B.ld := QB hs.ob hs.ld (by intro z; cases z)
  have l2 : B.ld ≠ B.rl := QB hs.ld hv (by intro z; cases z)
  have ob1 : ∀ {o : HO}, (upd H B.ld o) q = some (.ins CS B.dx (QfW p B)) := fun {o} => by rw [Qf q1]; exact hs.ob
  have r1 : ∀ {o : HO}, (upd H B.ld o) r = some (.tup row.vs) := fun {o} => by rw [Qf (QB hr' hs.ld (by intro z; cases z))]; exact hr'
  have v1 : ∀ {o : HO}, (upd H B.ld o) B.rl = some (.lst vs) := fun {o} => by rw [Qf l2.symm]; exact hv
  refine Qcd ⟨_, rfl, q, CS, B.dx, _, _, rfl, hs.ob, TS.cl, TS.n_listed, Qd1, _, rfl, r, _, 0, .int row.nm, rfl, rfl, SqT.of hr', hix, B.ld, _, rfl, DPut.k (k := Sum.inl row.nm) hs.ld (by rw [ZO, List.length_map]; exact QK (by omega)), ?_⟩
  refine ⟨_, rfl, q, CS, B.dx, _, _, rfl, ob1, TS.cl, TS.n_rows, Qd0, .inl ⟨rfl, _, SqL.of v1⟩, _, rfl, B.rl, _, _, rfl, rfl, v1, by rw [← pr_len pr]; exact QK (by omega), ?_⟩
  refine k _ (hs.added hr' hm hv pr) (fun b o e n => ?_) (fun b xs e => ?_)
  ·rw [Qf (fun z => n (by rw [z]; simp [SB.foot])), Qf (fun z => n (by rw [z]; simp [SB.foot]))]; exact e
  ·rw [Qf (QB e hv (by intro z; cases z)), Qf (QB e hs.ld (by intro z; cases z))]; exact e
theorem QbL {f : Addr} (F : Fun K "add_value" "Search.add_value" ZB f fd) (T : TX K mg C) (TS : TSx K mg CS) (D1_ : DefOk P w K mg base n "box_name" ["thing"] (Qac) [[]])
  (M2_ : MethOk P w K mg base C n "field" ["self", "name", "at"] (QcU C) [[]])
  (M3_ : MethOk P w K mg base CS n "add_row" ["self", "row"] (Qb1 CS) [[]]) :
  FnOk P w K mg base CX0 (n + 1) f fd ["self", "holder"] (Qb0 C CS) := by
 refine F.ok Qad (by rintro _ _ _ _ ⟨_, _, _, _, _, _, _, _, _, rfl, _⟩; rfl) fun _ _ _ s H vs Q E hr h => ?_
 obtain ⟨q, p, A', S, B, st, i, b, t, rfl, sh, hb, ht, k⟩ := h
 have hu := QC hr
 refine ⟨_, (Qc (Qq (i := 2) Qad.nd rfl (Or.inl rfl) (qc D1_ hr (Qa (qm M2_ (Qw (pv 0) rfl) T.cl hr (Qa (pv 1) (Qa Qi Qe))) Qe)))
  (Qh (QZ (QaL (Qco (pv 2))) (Qh (Qk (qm M3_ (pv 0) TS.cl hr (Qa (Qan (Qa (pv 2) (Qa Z1 (Qa (pv 1) Qe)))) Qe)))) Qn))), ?_⟩
 have hs := sh.hs
 refine ⟨_, rfl, q, CS, B.dx, _, _, rfl, hs.ob, TS.cl, TS.n_house, Qa7, p, A'.dx, _, rfl, sh.hh.ob, Ql, _, rfl, p, A', S, i, b, 1, t, rfl, sh.hh, hb, ht, fun v tv => ?_⟩
 refine ⟨v, t, rfl, tv, ?_⟩
 have hin := sh.ok.row b (List.mem_of_getElem? hb) t (List.mem_of_getElem? ht)
 cases t with
 | non => exact ⟨_, rfl, _, rfl, Qbz ((UpS.refl sh).outB k)⟩
 | num j => exact ⟨_, rfl, _, rfl, Qbz ((UpS.refl sh).outB k)⟩
 | box n' =>
  refine ⟨_, rfl, _, rfl, Qcd ⟨_, rfl, q, B.dx, _, rfl, hs.ob, ZT (by decide +kernel), _, rfl, _, rfl, zl, fun r hr => ?_⟩⟩
  have u1 := (UpS.refl sh).new (o := .tup (Rw.pair n' b.name).vs) hr
  refine ⟨q, p, r, B, st, .pair n' b.name, rfl, u1.sh.hs, Qb, by have := sh.few; omega, fun H2 h2 fr2 tu2 => ?_⟩
  exact (u1.step h2 fr2 tu2 (Grown.refl _ _) (SS.add_ins sh.ins (hin n' rfl))).outB k
theorem Qbu {f : Addr} (F : Fun K "add_fields" "Search.add_fields" Zl f fd) (T : TX K mg C) (TS : TSx K mg CS) (M1_ : MethOk P w K mg base C n "size" ["self", "name"] (QhR C) [[]])
  (D2_ : DefOk P w K mg base n "box_name" ["thing"] (Qac) [[]])
  (M3_ : MethOk P w K mg base C n "field" ["self", "name", "at"] (QcU C) [[]])
  (M4_ : MethOk P w K mg base CS n "add_row" ["self", "row"] (Qb1 CS) [[]]) :
  FnOk P w K mg base CX0 (n + 1) f fd ["self", "holder"] (QdZ C CS) := by
 refine F.ok Zf (by rintro _ _ _ _ ⟨_, _, _, _, _, _, _, _, rfl, _⟩; rfl) fun _ _ _ s H vs Q E hr h => ?_
 obtain ⟨q, p, A', S, B, st, i, b, rfl, sh, hb, k⟩ := h
 have hu := QC hr
 refine ⟨_, (Qh (Za PassesOwn.never rfl (Zb (by rfl) T.g_range (Qa (qm M1_ (Qw (pv 0) rfl) T.cl hr (Qa (pv 1) Qe)) Qe)) (QS (i := 2) Zf.nd rfl (Or.inl rfl))
  (Qc (Qq (i := 3) Zf.nd rfl (Or.inl rfl) (qc D2_ hr (Qa (qm M3_ (Qw (pv 0) rfl) T.cl hr (Qa (pv 1) (Qa (pv 2) Qe))) Qe)))
  (Qh (QZ (QaL (Qco (pv 3))) (Qh (Qk (qm M4_ (pv 0) TS.cl hr (Qa (Qan (Qa (pv 3) (Qa Z1 (Qa (pv 1) (Qa (pv 2) Qe))))) Qe)))) Qn))))), ?_⟩
 have h8 := sh.ok.eight b (List.mem_of_getElem? hb)
 refine ⟨_, rfl, q, CS, B.dx, _, _, rfl, sh.hs.ob, TS.cl, TS.n_house, Qa7, p, A'.dx, _, rfl, sh.hh.ob, Ql, _, rfl, p, A', S, i, b, rfl, sh.hh, hb, (b.row.length : Int), rfl, by omega, by omega, ?_⟩
 rw [Int.toNat_natCast]
 refine QaI (n := b.row.length) (fun j σ H' => ∃ v_at v_name, σ = [some (.ref q), some (.int b.name), v_at, v_name] ∧ UpS C CS H q p A' S B H' B (addTs (fun n at_ => .plain n b.name at_) st (b.row.take j))) ?_ ?_ ?_
 ·exact ⟨_, _, rfl, UpS.refl sh⟩
 ·rintro j σ H1 hj ⟨v1, v2, rfl, u⟩
  have e0 : (0 : Int) + (j : Int) = (j : Int) := Int.zero_add _
  rw [e0]
  obtain ⟨t, ht⟩ : ∃ t, b.row[j]? = some t := ⟨b.row[j], List.getElem?_eq_getElem hj⟩
  have hin := sh.ok.row b (List.mem_of_getElem? hb) t (List.mem_of_getElem? ht)
  have hs := u.sh.hs
  refine ⟨_, rfl, q, CS, B.dx, _, _, rfl, hs.ob, TS.cl, TS.n_house, Qa7, p, A'.dx, _, rfl, u.sh.hh.ob, Ql, _, rfl, _, rfl, p, A', S, i, b, j, t, rfl, u.sh.hh, hb, ht, fun v tv => ?_⟩
  refine ⟨v, t, rfl, tv, ?_⟩
  have htk : b.row.take (j + 1) = b.row.take j ++ [t] := by rw [List.take_add_one, ht]; rfl
  have hlen : (b.row.take j).length = j := by rw [List.length_take]; omega
  have hnext : ∀ {st' : SS}, st' = ((addTs (fun n at_ => .plain n b.name at_) st (b.row.take j)).addT t fun n => .plain n b.name j) → st' = addTs (fun n at_ => .plain n b.name at_) st (b.row.take (j + 1)) := fun {st'} e => by rw [htk, Qda, hlen]; exact e
  cases t with
  | non => exact ⟨_, rfl, _, rfl, Qbz ⟨_, _, rfl, hnext rfl ▸ u⟩⟩
  | num m => exact ⟨_, rfl, _, rfl, Qbz ⟨_, _, rfl, hnext rfl ▸ u⟩⟩
  | box n' =>
   refine ⟨_, rfl, _, rfl, Qcd ⟨_, rfl, q, B.dx, _, rfl, hs.ob, ZT (by decide +kernel), _, rfl, _, rfl, _, rfl, zl, fun r hr => ?_⟩⟩
   have u1 := u.new (o := .tup (Rw.plain n' b.name j).vs) hr
   refine ⟨q, p, r, B, _, .plain n' b.name j, rfl, u1.sh.hs, Qb, by have := u.sh.few; omega, fun H2 h2 fr2 tu2 => ?_⟩
   refine ⟨_, _, rfl, ?_⟩
   rw [← hnext rfl]
   exact u1.step h2 fr2 tu2 (Grown.refl _ _) (SS.add_ins u.sh.ins (hin n' rfl))
 ·rintro σ H1 ⟨v1, v2, rfl, u⟩
  rw [List.take_length] at u
  exact u.outB k
end
def addNs (g : Int) (st : SS) (ns : List Int) : SS := ns.foldl (fun st n => st.add (.told n g)) st
def Qbm (st : SS) (tss : List (List Int)) : SS := tss.zipIdx.foldl (fun st x => addNs x.2 st x.1) st
theorem QhB (g : Int) (st : SS) (ns : List Int) (n : Int) : addNs g st (ns ++ [n]) = (addNs g st ns).add (.told n g) := by
 unfold addNs; rw [List.foldl_append]; rfl
theorem Qgq (st : SS) (tss : List (List Int)) (ns : List Int) : Qbm st (tss ++ [ns]) = addNs tss.length (Qbm st tss) ns := by
 unfold Qbm
 rw [List.zipIdx_append, List.foldl_append]
 simp
def QeU (C CS : Addr) : Sp := fun vs H Q _ => ∃ (q p : Addr) (A : HA) (S : HS) (B : SB) (st : SS), vs = [.ref q] ∧ SH C CS H q p A S B st ∧ OutB C CS H q p A S B (addTs (fun n s => .slot n s) st S.slots) Q .non
def QfS (C CS : Addr) : Sp := fun vs H Q _ => ∃ (q p : Addr) (A : HA) (S : HS) (B : SB) (st : SS), vs = [.ref q] ∧ SH C CS H q p A S B st ∧ OutB C CS H q p A S B (Qbm st S.told) Q .non
section
variable {C CS : Addr}
theorem QbM {f : Addr} (F : Fun K "add_slots" "Search.add_slots" ZC f fd) (T : TX K mg C) (TS : TSx K mg CS) (D1_ : DefOk P w K mg base n "box_name" ["thing"] (Qac) [[]])
  (M2_ : MethOk P w K mg base CS n "add_row" ["self", "row"] (Qb1 CS) [[]]) :
  FnOk P w K mg base CX0 (n + 1) f fd ["self"] (QeU C CS) := by
 refine F.ok Zj (by rintro _ _ _ _ ⟨_, _, _, _, _, _, rfl, _⟩; rfl) fun _ _ _ s H vs Q E hr h => ?_
 obtain ⟨q, p, A', S, B, st, rfl, sh, k⟩ := h
 have hu := QC hr
 refine ⟨_, (Qh (Za PassesOwn.never rfl (Qfl (by rfl) T.g_enumerate (Qa (Qw (Qw (pv 0) rfl) rfl) Qe)) (Qed rfl Zj.nd (i := 1) (j := 2) rfl rfl (Or.inl rfl) (Or.inl rfl))
  (Qc (Qq (i := 3) Zj.nd rfl (Or.inl rfl) (qc D1_ hr (Qa (pv 2) Qe)))
  (Qh (QZ (QaL (Qco (pv 3))) (Qh (Qk (qm M2_ (pv 0) TS.cl hr (Qa (Qan (Qa (pv 3) (Qa Z1 (Qa (pv 1) Qe)))) Qe)))) Qn))))), ?_⟩
 obtain ⟨ws, hw, htw⟩ := sh.hh.sl
 refine ⟨_, rfl, q, CS, B.dx, _, _, rfl, sh.hs.ob, TS.cl, TS.n_house, Qa7, p, C, A'.dx, _, _, rfl, sh.hh.ob, T.cl, T.n_slots, Qb5, A'.sl, ws, rfl, hw, ?_⟩
 have nsl : A'.sl ∉ B.foot q := sh.ap _ (by simp [HA.foot, HA.lists])
 refine QdL (xs := ws) (fun j σ H' => ∃ v_slot v_thing v_name, σ = [some (.ref q), v_slot, v_thing, v_name] ∧ UpS C CS H q p A' S B H' B (addTs (fun n s => .slot n s) st (S.slots.take j))) ?_ ?_ ?_ ?_
 ·exact ⟨_, _, _, rfl, UpS.refl sh⟩
 ·rintro j σ H1 _ ⟨_, _, _, rfl, u⟩
  exact (u.keep hw nsl).1
 ·rintro j y σ H1 q1 hy ⟨v1, v2, v3, rfl, u⟩ hq1
  obtain ⟨t, ht, tv⟩ := pr_getR htw hy
  have hj := (List.getElem?_eq_some_iff.mp ht).1
  have u1 := u.new (o := .tup [.int (j : Int), y]) hq1
  have htu := (Qb (H := H1) (a := q1) (o := .tup [.int (j : Int), y]))
  generalize upd H1 q1 (.tup [.int (j : Int), y]) = H2 at u1 htu ⊢
  refine ⟨q1, _, _, rfl, htu, ?_⟩
  refine ⟨_, rfl, y, t, rfl, tv.keep u1.tu, ?_⟩
  have hin := sh.ok.slot t (List.mem_of_getElem? ht)
  have htk : S.slots.take (j + 1) = S.slots.take j ++ [t] := by rw [List.take_add_one, ht]; rfl
  have hlen : (S.slots.take j).length = j := by rw [List.length_take]; omega
  have hnext : ∀ {st' : SS}, st' = ((addTs (fun n s => .slot n s) st (S.slots.take j)).addT t fun n => .slot n j) → st' = addTs (fun n s => .slot n s) st (S.slots.take (j + 1)) := fun {st'} e => by rw [htk, Qda, hlen]; exact e
  cases t with
  | non => exact ⟨_, rfl, _, rfl, Qbz ⟨_, _, _, rfl, hnext rfl ▸ u1⟩⟩
  | num m => exact ⟨_, rfl, _, rfl, Qbz ⟨_, _, _, rfl, hnext rfl ▸ u1⟩⟩
  | box n' =>
   refine ⟨_, rfl, _, rfl, Qcd ⟨_, rfl, q, B.dx, _, rfl, u1.sh.hs.ob, ZT (by decide +kernel), _, rfl, _, rfl, zl, fun r hr => ?_⟩⟩
   have u2 := u1.new (o := .tup (Rw.slot n' j).vs) hr
   refine ⟨q, p, r, B, _, .slot n' j, rfl, u2.sh.hs, Qb, by have := u1.sh.few; omega, fun H3 h3 fr3 tu3 => ?_⟩
   refine ⟨_, _, _, rfl, ?_⟩
   rw [← hnext rfl]
   exact u2.step h3 fr3 tu3 (Grown.refl _ _) (SS.add_ins u1.sh.ins (hin n' rfl))
 ·rintro σ H1 ⟨v1, v2, v3, rfl, u⟩
  rw [← pr_len htw, List.take_length] at u
  exact u.outB k
theorem Qb9 {f : Addr} (F : Fun K "add_told" "Search.add_told" ZJ f fd) (T : TX K mg C) (TS : TSx K mg CS) (M1_ : MethOk P w K mg base CS n "add_row" ["self", "row"] (Qb1 CS) [[]]) :
  FnOk P w K mg base CX0 (n + 1) f fd ["self"] (QfS C CS) := by
 refine F.ok ZA (by rintro _ _ _ _ ⟨_, _, _, _, _, _, rfl, _⟩; rfl) fun _ _ _ s H vs Q E hr h => ?_
 obtain ⟨q, p, A', S, B, st, rfl, sh, k⟩ := h
 have hu := QC hr
 refine ⟨_, (Qh (Za PassesOwn.never rfl (Qfl (by rfl) T.g_enumerate (Qa (Qw (Qw (pv 0) rfl) rfl) Qe)) (Qed rfl ZA.nd (i := 1) (j := 2) rfl rfl (Or.inl rfl) (Or.inl rfl))
  (Qh (Za PassesOwn.never rfl (QR (pv 2)) (QS (i := 3) ZA.nd rfl (Or.inl rfl))
  (Qh (Qk (qm M1_ (pv 0) TS.cl hr (Qa (Qan (Qa (pv 3) (Qa Z1 (Qa (pv 1) Qe)))) Qe)))))))), ?_⟩
 have htd := sh.hh.td
 have htl := sh.hh.tl
 refine ⟨_, rfl, q, CS, B.dx, _, _, rfl, sh.hs.ob, TS.cl, TS.n_house, Qa7, p, C, A'.dx, _, _, rfl, sh.hh.ob, T.cl, T.n_told, Qc2, A'.td, _, rfl, htd, ?_⟩
 have ntd : A'.td ∉ B.foot q := sh.ap _ (by simp [HA.foot, HA.lists])
 refine QdL (xs := A'.tl.map V.ref) (fun j σ H' => ∃ v_guard v_names v_name, σ = [some (.ref q), v_guard, v_names, v_name] ∧ UpS C CS H q p A' S B H' B (Qbm st (S.told.take j))) ?_ ?_ ?_ ?_
 ·exact ⟨_, _, _, rfl, UpS.refl sh⟩
 ·rintro j σ H1 _ ⟨_, _, _, rfl, u⟩
  exact (u.keep htd ntd).1
 ·rintro j y σ H1 q1 hy ⟨v1, v2, v3, rfl, u⟩ hq1
  obtain ⟨a, ha, rfl⟩ : ∃ a, A'.tl[j]? = some a ∧ y = .ref a := by
   rw [List.getElem?_map] at hy
   cases e : A'.tl[j]? with
   | none => rw [e] at hy; cases hy
   | some a => rw [e] at hy; exact ⟨a, rfl, (Option.some.inj hy).symm⟩
  obtain ⟨ns, hns, hia⟩ := pr_getR htl ha
  have hj := (List.getElem?_eq_some_iff.mp hns).1
  have nta : a ∉ B.foot q := sh.ap _ (by simp [HA.foot, HA.lists, List.mem_of_getElem? ha])
  have u1 := u.new (o := .tup [.int (j : Int), .ref a]) hq1
  have htu := (Qb (H := H1) (a := q1) (o := .tup [.int (j : Int), .ref a]))
  generalize upd H1 q1 (.tup [.int (j : Int), .ref a]) = H2 at u1 htu ⊢
  refine ⟨q1, _, _, rfl, htu, ?_⟩
  refine ⟨_, rfl, a, rfl, ⟨_, SqL.of (u1.keep hia nta).1⟩, ?_⟩
  refine Zv (K := K) (xs := ns.map V.int) (fun i σ H' => ∃ v_name, σ = [some (.ref q), some (.int j), some (.ref a), v_name] ∧ UpS C CS H q p A' S B H' B (addNs j (Qbm st (S.told.take j)) (ns.take i))) ?_ ?_ ?_ ?_
  ·exact ⟨_, rfl, u1⟩
  ·rintro i σ H3 _ ⟨_, rfl, u3⟩
   exact SqL.of (u3.keep hia nta).1
  ·rintro i z σ H3 hz ⟨v, rfl, u3⟩
   obtain ⟨m, hm, rfl⟩ : ∃ m, ns[i]? = some m ∧ z = .int m := by
    rw [List.getElem?_map] at hz
    cases e : ns[i]? with
    | none => rw [e] at hz; cases hz
    | some m => rw [e] at hz; exact ⟨m, rfl, (Option.some.inj hz).symm⟩
   refine ⟨_, rfl, q, B.dx, _, rfl, u3.sh.hs.ob, ZT (by decide +kernel), _, rfl, _, rfl, zl, fun r hr => ?_⟩
   have u4 := u3.new (o := .tup (Rw.told m j).vs) hr
   refine ⟨q, p, r, B, _, .told m j, rfl, u4.sh.hs, Qb, by have := u3.sh.few; omega, fun H5 h5 fr5 tu5 => ?_⟩
   refine ⟨_, rfl, ?_⟩
   rw [List.take_add_one, hm]
   show UpS C CS H q p A' S B H5 B (addNs j _ (ns.take i ++ [m]))
   rw [QhB]
   exact u4.step h5 fr5 tu5 (Grown.refl _ _) (SS.add_ins u3.sh.ins (sh.ok.told ns (List.mem_of_getElem? hns) m (List.mem_of_getElem? hm)))
  ·rintro σ H3 ⟨v, rfl, u3⟩
   rw [List.length_map, List.take_length] at u3
   have htk : S.told.take (j + 1) = S.told.take j ++ [ns] := by rw [List.take_add_one, hns]; rfl
   have hlen : (S.told.take j).length = j := by rw [List.length_take]; omega
   refine ⟨_, _, _, rfl, ?_⟩
   rw [htk, Qgq, hlen]
   exact u3
 ·rintro σ H1 ⟨v1, v2, v3, rfl, u⟩
  rw [List.length_map, ← pr_len htl, List.take_length] at u
  exact u.outB k
end
def Zq : List (Int × List Int) → Int → Int → List (Int × List Int)
 | [], k, h => [(k, [h])]
 | x :: l, k, h => if x.1 = k then (x.1, x.2 ++ [h]) :: l else x :: Zq l k h
theorem Qe2 : ∀ {l : List (Int × List Int)} {k h : Int} {j : Nat} {hs : List Int}, (l.map (·.1)).Nodup → l[j]? = some (k, hs) → Zq l k h = l.set j (k, hs ++ [h])
 | [], _, _, _, _, _, e => by simp at e
 | x :: l, k, h, 0, hs, nd, e => by
  have e : x = (k, hs) := by simpa using e
  subst e
  simp [Zq]
 | x :: l, k, h, j + 1, hs, nd, e => by
  have e : l[j]? = some (k, hs) := by simpa using e
  have nd : (x.1 :: l.map (·.1)).Nodup := nd
  obtain ⟨n1, n2⟩ := List.nodup_cons.mp nd
  have hk : k ∈ l.map (·.1) := List.mem_map.mpr ⟨(k, hs), List.mem_of_getElem? e, rfl⟩
  have ne : ¬ x.1 = k := fun z => n1 (by rw [z]; exact hk)
  show (if x.1 = k then _ else _) = _
  rw [if_neg ne, Qe2 n2 e]
  rfl
theorem Qet : ∀ {l : List (Int × List Int)} {k h : Int}, k ∉ l.map (·.1) → Zq l k h = l ++ [(k, [h])]
 | [], _, _, _ => rfl
 | x :: l, k, h, n => by
  have n1 : ¬ x.1 = k := fun z => n (by simp [z])
  show (if x.1 = k then _ else _) = _
  rw [if_neg n1, Qet (fun m => n (List.mem_cons_of_mem _ m))]
  rfl
def SS.lock (st : SS) (k h : Int) : SS := { st with locked := Zq st.locked k h }
theorem Qe1 {l : List (Int × List Int)} {al : List Addr} (h : l.length = al.length) : (Qby l al).map (·.1) = (l.map (·.1)).map fun n => (Sum.inl n : Key) := by
 unfold Qby
 rw [List.map_map, List.map_map]
 refine List.ext_getElem? fun k => ?_
 rw [List.getElem?_map, List.getElem?_map]
 cases e : l[k]? with
 | none =>
  have : (l.zip al)[k]? = none := by
   rw [List.getElem?_eq_none_iff] at e ⊢
   rw [List.length_zip]; omega
  rw [this]; rfl
 | some x =>
  have hk := (List.getElem?_eq_some_iff.mp e).1
  obtain ⟨a, ha⟩ : ∃ a, al[k]? = some a := ⟨al[k]'(by omega), List.getElem?_eq_getElem _⟩
  rw [List.getElem?_zip_eq_some.mpr (show l[k]? = some (x, a).1 ∧ al[k]? = some (x, a).2 from ⟨e, ha⟩)]
  rfl
section
variable {CS : Addr} {H : Hp} {q p : Addr} {B : SB} {st : SS}
theorem SearchAt.lkNd (h : SearchAt CS H q p B st) : ((Qby st.locked B.ll).map (·.1)).Nodup := by rw [Qe1 (pr_len h.ll)]; exact QcZ h.lk
theorem SearchAt.lockAt (h : SearchAt CS H q p B st) {j : Nat} {k : Int} {hs : List Int} (e : st.locked[j]? = some (k, hs)) : ∃ a, B.ll[j]? = some a ∧ Qhe H hs a ∧ QaP (Qby st.locked B.ll) (Sum.inl k) = some (.ref a) := by
 obtain ⟨a, ha, z⟩ := Q6 h.ll e
 refine ⟨a, ha, z, QcT h.lkNd (i := j) ?_⟩
 unfold Qby
 rw [List.getElem?_map, List.getElem?_zip_eq_some.mpr (show st.locked[j]? = some ((k, hs), a).1 ∧ B.ll[j]? = some ((k, hs), a).2 from ⟨e, ha⟩)]
 rfl
theorem SearchAt.lockNo (h : SearchAt CS H q p B st) {k : Int} (n : k ∉ st.locked.map (·.1)) : QaP (Qby st.locked B.ll) (Sum.inl k) = none := by
 refine Qcw ?_
 rw [Qe1 (pr_len h.ll)]
 intro m
 obtain ⟨x, hx, z⟩ := List.mem_map.mp m
 rw [Sum.inl.inj z] at hx
 exact n hx
theorem SearchAt.lockOld (h : SearchAt CS H q p B st) {j : Nat} {k x : Int} {hs : List Int} {a : Addr} (e : st.locked[j]? = some (k, hs)) (ha : B.ll[j]? = some a) : SearchAt CS (upd H a (.lst ((hs ++ [x]).map V.int))) q p B (st.lock k x) := by
 obtain ⟨a2, ha2, z⟩ := Q6 h.ll e
 rw [ha] at ha2; cases ha2
 obtain ⟨n1, n2⟩ := List.nodup_cons.mp h.nd
 have ham := List.mem_of_getElem? ha
 obtain ⟨vs, hv, pr⟩ := h.rl
 have z : H a = some (.lst (hs.map V.int)) := z
 have tu : Tups H (upd H a (.lst ((hs ++ [x]).map V.int))) := Tups.upd z (by intro xs w; cases w)
 have el : (st.lock k x).locked = st.locked.set j (k, hs ++ [x]) := Qe2 h.lk e
 have hkeys : (st.locked.set j (k, hs ++ [x])).map (·.1) = st.locked.map (·.1) := by
  refine List.ext_getElem? fun i => ?_
  rw [List.getElem?_map, List.getElem?_map, List.getElem?_set]
  by_cases q : j = i
  ·subst q; rw [e]; simp [(List.getElem?_eq_some_iff.mp e).1]
  ·rw [if_neg q]
 refine ⟨?_, ⟨vs, ?_, QE (fun _ _ _ _ z => z.keep tu) pr⟩, ?_, ?_, ?_, h.nd, h.kf, h.un, ?_⟩
 ·rw [Qf (QB h.ob z (by intro w; cases w))]; exact h.ob
 ·rw [Qf (show B.rl ≠ a from fun w => n1 (by rw [w]; exact ham))]; exact hv
 ·rw [Qf (QB h.ld z (by intro w; cases w))]; exact h.ld
 ·rw [Qf (QB h.kd z (by intro w; cases w)), h.kd, el]
  congr 2
  unfold Qby
  refine List.ext_getElem? fun i => ?_
  rw [List.getElem?_map, List.getElem?_map]
  unfold List.zip
  rw [List.getElem?_zipWith, List.getElem?_zipWith, List.getElem?_set]
  by_cases q : j = i
  ·subst q; rw [e, ha]; simp [(List.getElem?_eq_some_iff.mp e).1]
  ·rw [if_neg q]
 ·rw [el]
  have ea : B.ll = B.ll.set j a := by
   refine List.ext_getElem? fun i => ?_
   rw [List.getElem?_set]
   by_cases q : j = i
   ·subst q; rw [ha]; simp [(List.getElem?_eq_some_iff.mp ha).1]
   ·simp [q]
  rw [ea]
  exact QcW h.ll Qb fun i y c hi hy hc w => by
   show upd _ _ _ c = _
   rw [Qf (show c ≠ a from fun q => hi (Qbp n2 (by rw [← q]; exact hc) ha))]; exact w
 ·rw [el, hkeys]; exact h.lk
theorem SearchAt.lockNew (h : SearchAt CS H q p B st) {k x : Int} {l : Addr} (n : k ∉ st.locked.map (·.1)) (hl : H l = none) :
  SearchAt CS (upd (upd (upd H l (.lst [])) B.kd (.dK (QbK (Qby st.locked B.ll) (Sum.inl k) (.ref l)))) l (.lst [.int x])) q p { B with ll := B.ll ++ [l] } (st.lock k x) := by
 obtain ⟨n1, n2⟩ := List.nodup_cons.mp h.nd
 obtain ⟨vs, hv, pr⟩ := h.rl
 have lne : ∀ {b : Addr} {o : HO}, H b = some o → b ≠ l := fun e => Qd e hl
 have k1 : (upd H l (.lst [])) B.kd = some (.dK (Qby st.locked B.ll)) := Zt h.kd hl
 have other : ∀ {b : Addr} {o : HO}, H b = some o → b ≠ B.kd → (upd (upd (upd H l (.lst [])) B.kd (.dK (QbK (Qby st.locked B.ll) (Sum.inl k) (.ref l)))) l (.lst [.int x])) b = some o := fun e nk => by rw [Qf (lne e), Qf nk, Qf (lne e)]; exact e
 have tu : Tups H (upd (upd (upd H l (.lst [])) B.kd (.dK (QbK (Qby st.locked B.ll) (Sum.inl k) (.ref l)))) l (.lst [.int x])) := fun b xs e => other e (QB e h.kd (by intro z; cases z))
 have el : (st.lock k x).locked = st.locked ++ [(k, [x])] := Qet n
 have hlen := pr_len h.ll
 have inl : ∀ c ∈ B.ll, ∃ o, H c = some o := fun c hc => h.there c (by simp [SB.foot, hc])
 refine ⟨other h.ob (QB h.ob h.kd (by intro z; cases z)), ⟨vs, other hv (QB hv h.kd (by intro z; cases z)), QE (fun _ _ _ _ z => z.keep tu) pr⟩, other h.ld h.kf, ?_, ?_, ?_, h.kf, h.un, ?_⟩
 ·show upd _ _ _ B.kd = _
  rw [Qf (lne h.kd), Qb, Qbf _ (h.lockNo n), el]
  congr 2
  unfold Qby
  rw [List.zip_append hlen, List.map_append]; rfl
 ·rw [el]
  refine Qci (QE (fun y c _ hc z => ?_) h.ll) (.cons Qb .nil)
  exact other z (QB z h.kd (by intro w; cases w))
 ·show (B.rl :: (B.ll ++ [l])).Nodup
  refine List.nodup_cons.mpr ⟨fun m => ?_, QcY n2 fun m => ?_⟩
  ·rcases List.mem_append.mp m with z | z
   ·exact n1 z
   ·exact lne hv (List.mem_singleton.mp z)
  ·obtain ⟨o, e⟩ := inl l m
   rw [hl] at e; cases e
 ·rw [el, List.map_append]
  exact QcY h.lk n
end
def Qa5 (st : SS) (h : Int) (t0 t1 : T) : SS := match t0 with
 | .box k => if k ∈ st.names then st.addT t1 (fun n => .pair n h) else st.lock k h
 | _ => st.addT t1 (fun n => .pair n h)
def Qdc (C CS : Addr) : Sp := fun vs H Q _ => ∃ (q p : Addr) (A : HA) (S : HS) (B : SB) (st : SS) (i : Nat) (b : Box) (t0 t1 : T), vs = [.ref q, .int b.name] ∧ SH C CS H q p A S B st ∧ S.boxes[i]? = some b ∧ b.row[0]? = some t0 ∧ b.row[1]? = some t1 ∧
 st.locked.length < 1000 ∧ (∀ x ∈ st.locked, x.2.length < 1000) ∧ OutH C CS H q p A S B (Qa5 st b.name t0 t1) Q .non
section
variable {C CS : Addr}
theorem Qbj {f : Addr} (F : Fun K "follow_pair" "Search.follow_pair" Zg f fd) (T : TX K mg C) (TS : TSx K mg CS) (D1_ : DefOk P w K mg base n "box_name" ["thing"] (Qac) [[]])
  (M2_ : MethOk P w K mg base C n "field" ["self", "name", "at"] (QcU C) [[]])
  (M3_ : MethOk P w K mg base CS n "add_value" ["self", "holder"] (Qb0 C CS) [[]]) :
  FnOk P w K mg base CX0 (n + 1) f fd ["self", "holder"] (Qdc C CS) := by
 refine F.ok ZU (by rintro _ _ _ _ ⟨_, _, _, _, _, _, _, _, _, _, rfl, _⟩; rfl) fun _ _ _ s H vs Q E hr h => ?_
 obtain ⟨q, p, A', S, B, st, i, b, t0, t1, rfl, sh, hb, ht0, ht1, hl1, hl2, k⟩ := h
 have hu := QC hr
 refine ⟨_, (Qc (Qq (i := 2) ZU.nd rfl (Or.inl rfl) (qc D1_ hr (Qa (qm M2_ (Qw (pv 0) rfl) T.cl hr (Qa (pv 1) (Qa Qi Qe))) Qe)))
  (Qh (QZ (PW.pt (Qfj (QaL (Qj2 (pv 2))) (Qec (QaL (Qie hu (pv 2) (Qw (pv 0) rfl)))))) (Qh (Qk (qm M3_ (pv 0) TS.cl hr (Qa (pv 1) Qe)))) (Qh (Qk (QcF PySem.F.plainAttrs_list PySem.F.slot_list_append PySem.F.type_list_append Qaf (Qhm (Qw (pv 0) rfl) (pv 2) (ZR Qe) ⟨rfl, rfl, rfl, rfl⟩) (Qa (pv 1) Qe))))))), ?_⟩
 have hs := sh.hs
 refine ⟨_, rfl, q, CS, B.dx, _, _, rfl, hs.ob, TS.cl, TS.n_house, Qa7, p, A'.dx, _, rfl, sh.hh.ob, Ql, _, rfl, p, A', S, i, b, 0, t0, rfl, sh.hh, hb, ht0, fun v tv => ?_⟩
 refine ⟨v, t0, rfl, tv, ?_⟩
 have val : OutH C CS H q p A' S B (st.addT t1 fun n => .pair n b.name) Q .non → QhI CS "add_value" (Qb0 C CS) [] E0 (tVar 0) (Qgr (tVar 1) QhH) [some (.ref q), some (.int b.name), some t0.nm] H (fun _ H1 => Q .non H1) := fun k2 =>
  ⟨_, rfl, q, B.dx, _, rfl, hs.ob, ZT (by decide +kernel), _, rfl, q, p, A', S, B, st, i, b, t1, rfl, sh, hb, ht1, fun H2 u2 => u2.out k2⟩
 cases t0 with
 | non => exact ⟨_, rfl, _, rfl, Qcd (val k)⟩
 | num j => exact ⟨_, rfl, _, rfl, Qcd (val k)⟩
 | box key =>
  refine ⟨_, rfl, _, rfl, Qbz ⟨_, rfl, _, rfl, q, CS, B.dx, _, _, rfl, hs.ob, TS.cl, TS.n_listed, Qd1, B.ld, _, rfl, DGet.k (k := Sum.inl key) hs.ld, _, rfl, ?_⟩⟩
  rw [Qb3]
  by_cases hm : key ∈ st.rows.map Rw.nm
  ·rw [decide_eq_true hm]
   refine Qcd (val ?_)
   have e : Qa5 st b.name (.box key) t1 = st.addT t1 fun n => .pair n b.name := if_pos hm
   rw [e] at k
   exact k
  ·rw [decide_eq_false hm]
   have e : Qa5 st b.name (.box key) t1 = st.lock key b.name := if_neg hm
   rw [e] at k
   refine Qbz ⟨_, rfl, q, CS, B.dx, _, _, rfl, hs.ob, TS.cl, TS.n_locked, QfU, B.kd, rfl, .inl ⟨_, Rd.of hs.kd⟩, _, rfl, Nat.zero_le _, fun l hl => ?_⟩
   have hkd1 : (upd H l (.lst [])) B.kd = some (.dK (Qby st.locked B.ll)) := Zt hs.kd hl
   have hll : (Qby st.locked B.ll).length < sizeLine := by rw [Qby, List.length_map, List.length_zip]; exact QK (by omega)
   refine ⟨_, Sum.inl key, hkd1, rfl, hll, fun v hv => ?_, fun hn => ?_⟩
   ·-- it is there
    by_cases hin : key ∈ st.locked.map (·.1)
    ·obtain ⟨x, hx, hxe⟩ := List.mem_map.mp hin
     obtain ⟨j, hj⟩ := List.getElem?_of_mem hx
     obtain ⟨k', hs'⟩ := x
     have hxe : k' = key := hxe
     subst hxe
     obtain ⟨a, ha, hia, hva⟩ := hs.lockAt hj
     rw [hva] at hv; cases hv
     have hia1 : (upd H l (.lst [])) a = some (.lst (hs'.map V.int)) := Zt hia hl
     have u1 := (UpS.refl sh).new (o := .lst []) hl
     refine ⟨.inl ⟨rfl, _, SqL.of hia1⟩, _, rfl, a, _, _, rfl, rfl, hia1, by rw [List.length_map]; exact QK (Nat.le_of_lt (show hs'.length < 1000 from hl2 _ hx)), ?_⟩
     have e2 : hs'.map V.int ++ [V.int b.name] = (hs' ++ [b.name]).map V.int := by simp
     rw [e2]
     have ham := List.mem_of_getElem? ha
     exact (u1.step (u1.sh.hs.lockOld hj ha) (fun c o e n => by rw [Qf (fun z => n (by rw [z]; simp [SB.foot, ham]))]; exact e) (Tups.upd hia1 (by intro xs z; cases z)) (Grown.refl _ _) sh.ins).out k
    ·rw [hs.lockNo hin] at hv; cases hv
   ·-- a new list
    have hin : key ∉ st.locked.map (·.1) := fun hin => by
     obtain ⟨x, hx, hxe⟩ := List.mem_map.mp hin
     obtain ⟨j, hj⟩ := List.getElem?_of_mem hx
     obtain ⟨k', hs'⟩ := x
     have hxe : k' = key := hxe
     subst hxe
     obtain ⟨a, ha, hia, hva⟩ := hs.lockAt hj
     rw [hva] at hn; cases hn
    have hlk : l ≠ B.kd := (Qd hs.kd hl).symm
    have h2 : (upd (upd H l (.lst [])) B.kd (.dK (QbK (Qby st.locked B.ll) (Sum.inl key) (.ref l)))) l = some (.lst []) := by rw [Qf hlk]; exact Qb
    refine ⟨.inl ⟨rfl, _, SqL.of h2⟩, _, rfl, l, _, _, rfl, rfl, h2, by show 0 < sizeLine; decide, ?_⟩
    refine ((UpS.refl sh).step (hs.lockNew hin hl) (fun c o e n => ?_) (fun c xs e => ?_) (fun c hc => ?_) sh.ins).out k
    ·rw [Qf (Qd e hl), Qf (fun z => n (by rw [z]; simp [SB.foot])), Qf (Qd e hl)]; exact e
    ·rw [Qf (Qd e hl), Qf (QB e hs.kd (by intro z; cases z)), Qf (Qd e hl)]; exact e
    ·have hc : c ∈ B.foot q ∨ c = l := by
      simp only [SB.foot, List.mem_cons, List.mem_append, List.not_mem_nil, or_false] at hc ⊢
      rcases hc with h | h | h | h | h | h <;> simp [h]
     rcases hc with z | z
     ·exact .inl z
     ·exact .inr (by rw [z]; exact hl)
end
def Just (S : HS) (b0 : Option Int) (ahead : List Int) : Rw → Prop
 | .slot n s => ∃ i : Nat, s = (i : Int) ∧ S.slots[i]? = some (.box n)
 | .told n g => ∃ (i : Nat) (xs : List Int), g = (i : Int) ∧ S.told[i]? = some xs ∧ n ∈ xs
 | .bes n => b0 = some n
 | .plain n h a => h ∈ ahead ∧ ∃ (b : Box) (i : Nat), b ∈ S.boxes ∧ b.name = h ∧ b.kind = "plain" ∧ a = (i : Int) ∧ b.row[i]? = some (.box n)
 | .pair n h => h ∈ ahead ∧ ∃ (b : Box) (t : T), b ∈ S.boxes ∧ b.name = h ∧ b.kind = "pair" ∧ b.row[1]? = some (.box n) ∧ b.row[0]? = some t ∧ ∀ k, t = .box k → k ∈ ahead
section
variable {S : HS} {b0 : Option Int} {st st1 st2 : SS} {r : Rw} {t : T} {mk : Int → Rw}
theorem Just.mono {a a' : List Int} (h : Just S b0 a r) (s : ∀ n ∈ a, n ∈ a') : Just S b0 a' r := by
 cases r with
 | slot n s => exact h
 | told n g => exact h
 | bes n => exact h
 | plain n k i => obtain ⟨h1, h2⟩ := h; exact ⟨s _ h1, h2⟩
 | pair n k => obtain ⟨h1, b, t, x1, x2, x3, x4, x5, x6⟩ := h; exact ⟨s _ h1, b, t, x1, x2, x3, x4, x5, fun k e => s _ (x6 k e)⟩
def Shown (S : HS) (b0 : Option Int) (rows : List Rw) : Prop := ∀ (i : Nat) (r : Rw), rows[i]? = some r → Just S b0 ((rows.take i).map Rw.nm) r
theorem Shown.snoc {rows : List Rw} (h : Shown S b0 rows) (j : Just S b0 (rows.map Rw.nm) r) : Shown S b0 (rows ++ [r]) := fun i x e => by
 by_cases hi : i < rows.length
 ·rw [List.getElem?_append_left hi] at e
  rw [List.take_append_of_le_length (by omega)]
  exact h i x e
 ·have hl := (List.getElem?_eq_some_iff.mp e).1
  have ei : i = rows.length := by simp at hl; omega
  subst ei
  rw [List.getElem?_append_right (Nat.le_refl _)] at e
  simp at e
  subst e
  rw [List.take_left]
  exact j
structure Grow (S : HS) (b0 : Option Int) (st st' : SS) : Prop where
 pre : ∃ more, st'.rows = st.rows ++ more
 lk : st'.locked = st.locked
 sh : Shown S b0 st.rows → Shown S b0 st'.rows
theorem Grow.refl (st : SS) : Grow S b0 st st := ⟨⟨[], by simp⟩, rfl, fun h => h⟩
theorem Grow.trans (a : Grow S b0 st st1) (b : Grow S b0 st1 st2) : Grow S b0 st st2 := by
 obtain ⟨m, e⟩ := a.pre
 obtain ⟨m2, e2⟩ := b.pre
 exact ⟨⟨m ++ m2, by rw [e2, e, List.append_assoc]⟩, b.lk.trans a.lk, fun h => b.sh (a.sh h)⟩
theorem Grow.names (a : Grow S b0 st st1) : ∀ n ∈ st.names, n ∈ st1.names := fun n hn => by
 obtain ⟨m, e⟩ := a.pre
 unfold SS.names
 rw [e, List.map_append]
 exact List.mem_append_left _ hn
theorem Grow.add (h : Just S b0 st.names r) : Grow S b0 st (st.add r) := by
 unfold SS.add
 split
 ·exact Grow.refl _
 ·exact ⟨⟨[r], rfl⟩, rfl, fun z => z.snoc h⟩
theorem QfJ (st : SS) (r : Rw) : r.nm ∈ (st.add r).names := by
 unfold SS.add
 split
 ·assumption
 ·show r.nm ∈ (st.rows ++ [r]).map Rw.nm
  simp
theorem Grow.addT (h : ∀ n, t = .box n → Just S b0 st.names (mk n)) : Grow S b0 st (st.addT t mk) := by
 cases t with
 | non => exact Grow.refl _
 | num i => exact Grow.refl _
 | box n => exact Grow.add (h n rfl)
theorem QgQ (hm : ∀ n, (mk n).nm = n) {n : Int} (e : t = .box n) : n ∈ (st.addT t mk).names := by
 subst e
 have := QfJ st (mk n)
 rw [hm] at this
 exact this
theorem Grow.addTs {mk : Int → Int → Rw} {ts : List T} (hm : ∀ n i, (mk n i).nm = n) (h : ∀ (i : Nat) n, ts[i]? = some (.box n) → Just S b0 st.names (mk n i)) : Grow S b0 st (addTs mk st ts) ∧ ∀ n, .box n ∈ ts → n ∈ (addTs mk st ts).names := by
 have go : ∀ j, j ≤ ts.length → Grow S b0 st (LW.addTs mk st (ts.take j)) ∧ ∀ n, .box n ∈ ts.take j → n ∈ (LW.addTs mk st (ts.take j)).names := by
  intro j
  induction j with
  | zero => exact fun _ => ⟨Grow.refl _, fun n hn => by simp at hn⟩
  | succ j ih =>
   intro hj
   obtain ⟨g, inn⟩ := ih (by omega)
   obtain ⟨t, ht⟩ : ∃ t, ts[j]? = some t := ⟨ts[j], List.getElem?_eq_getElem (by omega)⟩
   have etk : ts.take (j + 1) = ts.take j ++ [t] := by rw [List.take_add_one, ht]; rfl
   have elen : (ts.take j).length = j := by rw [List.length_take]; omega
   rw [etk, Qda, elen]
   have g2 : Grow S b0 (LW.addTs mk st (ts.take j)) ((LW.addTs mk st (ts.take j)).addT t fun n => mk n j) := Grow.addT fun n e => (h j n (by rw [ht, e])).mono g.names
   refine ⟨g.trans g2, fun n hn => ?_⟩
   rcases List.mem_append.mp hn with z | z
   ·exact g2.names n (inn n z)
   ·exact QgQ (fun n => hm n j) (List.mem_singleton.mp z).symm
 have := go ts.length (Nat.le_refl _)
 rw [List.take_length] at this
 exact this
end
def SS.done (st : SS) (k : Nat) : List Int := (st.rows.take k).map Rw.nm
structure FInv (S : HS) (b0 : Option Int) (k : Nat) (st : SS) : Prop where
 sh : Shown S b0 st.rows
 le : k ≤ st.rows.length
 r1 : ∀ n, .box n ∈ S.slots → n ∈ st.names
 r2 : ∀ xs ∈ S.told, ∀ n ∈ xs, n ∈ st.names
 r3 : ∀ n, b0 = some n → n ∈ st.names
 pl : ∀ b ∈ S.boxes, b.name ∈ st.done k → b.kind = "plain" → ∀ n, .box n ∈ b.row → n ∈ st.names
 pr : ∀ b ∈ S.boxes, b.name ∈ st.done k → b.kind = "pair" → ∀ n, b.row[1]? = some (.box n) → n ∈ st.names ∨ ∃ key hs, b.row[0]? = some (.box key) ∧ (key, hs) ∈ st.locked ∧ b.name ∈ hs ∧ key ∉ st.done k
 lo : ∀ x ∈ st.locked, ∀ h ∈ x.2, ∃ b ∈ S.boxes, b.name = h ∧ b.kind = "pair" ∧ b.row[0]? = some (.box x.1) ∧ h ∈ st.names
 ln : st.locked.length ≤ k ∧ ∀ x ∈ st.locked, x.2.length ≤ k
theorem QjH {st st' : SS} {more : List Rw} (e : st'.rows = st.rows ++ more) {k : Nat} (h : k ≤ st.rows.length) : st'.done k = st.done k := by
 unfold SS.done
 rw [e, List.take_append_of_le_length h]
theorem QiK {st : SS} {k : Nat} {r : Rw} (h : st.rows[k]? = some r) : st.done (k + 1) = st.done k ++ [r.nm] := by
 unfold SS.done
 rw [List.take_add_one, h, List.map_append]
 rfl
theorem Qcr : ∀ {l : List (Int × List Int)} {k h : Int} {x : Int × List Int}, x ∈ Zq l k h → x ∈ l ∨ (x.1 = k ∧ (x.2 = [h] ∨ ∃ hs, (k, hs) ∈ l ∧ x.2 = hs ++ [h]))
 | [], k, h, x, m => by
  have m : x = (k, [h]) := by simpa [Zq] using m
  subst m
  exact .inr ⟨rfl, .inl rfl⟩
 | y :: l, k, h, x, m => by
  have m : x ∈ (if y.1 = k then (y.1, y.2 ++ [h]) :: l else y :: Zq l k h) := m
  split at m
  ·rename_i e
   rcases List.mem_cons.mp m with z | z
   ·subst z
    exact .inr ⟨e, .inr ⟨y.2, by rw [← e]; exact List.mem_cons_self, rfl⟩⟩
   ·exact .inl (List.mem_cons_of_mem _ z)
  ·rcases List.mem_cons.mp m with z | z
   ·exact .inl (by rw [z]; exact List.mem_cons_self)
   ·rcases Qcr z with q | ⟨q1, q2⟩
    ·exact .inl (List.mem_cons_of_mem _ q)
    ·refine .inr ⟨q1, ?_⟩
     rcases q2 with q | ⟨hs, q, e⟩
     ·exact .inl q
     ·exact .inr ⟨hs, List.mem_cons_of_mem _ q, e⟩
theorem Qev : ∀ (l : List (Int × List Int)) (k h : Int), ∃ hs, (k, hs) ∈ Zq l k h ∧ h ∈ hs
 | [], k, h => ⟨[h], by simp [Zq], by simp⟩
 | y :: l, k, h => by
  show ∃ hs, (k, hs) ∈ (if y.1 = k then (y.1, y.2 ++ [h]) :: l else y :: Zq l k h) ∧ h ∈ hs
  split
  ·rename_i e
   exact ⟨y.2 ++ [h], by rw [e]; exact List.mem_cons_self, by simp⟩
  ·obtain ⟨hs, a, b⟩ := Qev l k h
   exact ⟨hs, List.mem_cons_of_mem _ a, b⟩
theorem Qdh : ∀ {l : List (Int × List Int)} {k h : Int} {x : Int × List Int}, x ∈ l → ∃ hs, (x.1, hs) ∈ Zq l k h ∧ ∀ m ∈ x.2, m ∈ hs
 | [], _, _, _, m => by simp at m
 | y :: l, k, h, x, m => by
  show ∃ hs, (x.1, hs) ∈ (if y.1 = k then (y.1, y.2 ++ [h]) :: l else y :: Zq l k h) ∧ _
  rcases List.mem_cons.mp m with z | z
  ·subst z
   split
   ·exact ⟨x.2 ++ [h], List.mem_cons_self, fun m hm => List.mem_append_left _ hm⟩
   ·exact ⟨x.2, List.mem_cons_self, fun m hm => hm⟩
  ·split
   ·exact ⟨x.2, List.mem_cons_of_mem _ z, fun m hm => hm⟩
   ·obtain ⟨hs, a, b⟩ := Qdh (k := k) (h := h) z
    exact ⟨hs, List.mem_cons_of_mem _ a, b⟩
theorem Qeu : ∀ (l : List (Int × List Int)) (k h : Int), (Zq l k h).length ≤ l.length + 1
 | [], _, _ => by simp [Zq]
 | y :: l, k, h => by
  show (if y.1 = k then (y.1, y.2 ++ [h]) :: l else y :: Zq l k h).length ≤ _
  split
  ·simp
  ·have := Qeu l k h
   simp; omega
section
variable {S : HS} {b0 : Option Int} {st st1 st2 : SS} {k : Nat} {r : Rw}
theorem FInv.key (f : FInv S b0 k st) (hr : st.rows[k]? = some r) (g : Grow S b0 st st1) (h1 : ∀ x ∈ st.locked, x.1 = r.nm → ∀ h ∈ x.2, ∀ b ∈ S.boxes, b.name = h → ∀ n, b.row[1]? = some (.box n) → n ∈ st1.names) :
  (∀ b ∈ S.boxes, b.name ∈ st.done k → b.kind = "pair" → ∀ n, b.row[1]? = some (.box n) → n ∈ st1.names ∨ ∃ key hs, b.row[0]? = some (.box key) ∧ (key, hs) ∈ st1.locked ∧ b.name ∈ hs ∧ key ∉ st.done k ++ [r.nm]) := fun b hb hd hk n hn => by
 rcases f.pr b hb hd hk n hn with z | ⟨key, hs, x1, x2, x3, x4⟩
 ·exact .inl (g.names n z)
 ·by_cases e : key = r.nm
  ·exact .inl (h1 (key, hs) x2 e b.name x3 b hb rfl n hn)
  ·refine .inr ⟨key, hs, x1, by rw [g.lk]; exact x2, x3, fun m => ?_⟩
   rcases List.mem_append.mp m with z | z
   ·exact x4 z
   ·exact e (List.mem_singleton.mp z)
end
theorem ZS {bs : List Box} (nd : (bs.map (·.name)).Nodup) {x y : Box} (hx : x ∈ bs) (hy : y ∈ bs) (e : x.name = y.name) : x = y := by
 obtain ⟨i, hi⟩ := List.getElem?_of_mem hx
 obtain ⟨j, hj⟩ := List.getElem?_of_mem hy
 have h1 : (bs.map (·.name))[i]? = some x.name := by rw [List.getElem?_map, hi]; rfl
 have h2 : (bs.map (·.name))[j]? = some x.name := by rw [List.getElem?_map, hj, e]; rfl
 have := Qbp nd h1 h2
 subst this
 rw [hi] at hj
 exact Option.some.inj hj
section
variable {S : HS} {b0 : Option Int} {st st1 st2 : SS} {k : Nat} {r : Rw} {bx : Box}
theorem FInv.next (f : FInv S b0 k st) (hr : st.rows[k]? = some r) (g : Grow S b0 st st1) (h1 : ∀ x ∈ st.locked, x.1 = r.nm → ∀ h ∈ x.2, ∀ b ∈ S.boxes, b.name = h → ∀ n, b.row[1]? = some (.box n) → n ∈ st1.names)
  (nd : (S.boxes.map (·.name)).Nodup) (hb : bx ∈ S.boxes) (hn : bx.name = r.nm) (pre : ∃ more, st2.rows = st1.rows ++ more) (sh : Shown S b0 st2.rows) (kp : ∀ x ∈ st1.locked, ∃ hs, (x.1, hs) ∈ st2.locked ∧ ∀ m ∈ x.2, m ∈ hs)
  (lo : ∀ x ∈ st2.locked, ∀ h ∈ x.2, ∃ b ∈ S.boxes, b.name = h ∧ b.kind = "pair" ∧ b.row[0]? = some (.box x.1) ∧ h ∈ st2.names) (ln : st2.locked.length ≤ k + 1 ∧ ∀ x ∈ st2.locked, x.2.length ≤ k + 1)
  (cp : bx.kind = "plain" → ∀ n, .box n ∈ bx.row → n ∈ st2.names) (cq : bx.kind = "pair" → ∀ n, bx.row[1]? = some (.box n) → n ∈ st2.names ∨ ∃ key hs, bx.row[0]? = some (.box key) ∧ (key, hs) ∈ st2.locked ∧ bx.name ∈ hs ∧ key ∉ st.done k ++ [r.nm]) : FInv S b0 (k + 1) st2 := by
 obtain ⟨m1, e1⟩ := g.pre
 obtain ⟨m2, e2⟩ := pre
 have hk := (List.getElem?_eq_some_iff.mp hr).1
 have e3 : st2.rows = st.rows ++ (m1 ++ m2) := by rw [e2, e1, List.append_assoc]
 have hd : st2.done (k + 1) = st.done k ++ [r.nm] := by rw [QjH e3 (by omega), QiK hr]
 have up : ∀ n ∈ st1.names, n ∈ st2.names := fun n hn => by unfold SS.names; rw [e2, List.map_append]; exact List.mem_append_left _ hn
 have up0 : ∀ n ∈ st.names, n ∈ st2.names := fun n hn => up n (g.names n hn)
 have kq := f.key hr g h1
 refine ⟨sh, by rw [e3, List.length_append]; omega, fun n h => up0 n (f.r1 n h), fun xs hx n h => up0 n (f.r2 xs hx n h), fun n h => up0 n (f.r3 n h), fun b hb' hd' hkd n h => ?_, fun b hb' hd' hkd n h => ?_, lo, ln⟩
 ·rw [hd] at hd'
  rcases List.mem_append.mp hd' with z | z
  ·exact up0 n (f.pl b hb' z hkd n h)
  ·have e := ZS nd hb' hb ((List.mem_singleton.mp z).trans hn.symm)
   subst e
   exact cp hkd n h
 ·rw [hd] at hd' ⊢
  rcases List.mem_append.mp hd' with z | z
  ·rcases kq b hb' z hkd n h with q | ⟨key, hs, x1, x2, x3, x4⟩
   ·exact .inl (up n q)
   ·obtain ⟨hs2, y1, y2⟩ := kp _ x2
    exact .inr ⟨key, hs2, x1, y1, y2 _ x3, x4⟩
  ·have e := ZS nd hb' hb ((List.mem_singleton.mp z).trans hn.symm)
   subst e
   exact cq hkd n h
theorem FInv.grown (f : FInv S b0 k st) (hr : st.rows[k]? = some r) (g : Grow S b0 st st1) (h1 : ∀ x ∈ st.locked, x.1 = r.nm → ∀ h ∈ x.2, ∀ b ∈ S.boxes, b.name = h → ∀ n, b.row[1]? = some (.box n) → n ∈ st1.names)
  (nd : (S.boxes.map (·.name)).Nodup) (hb : bx ∈ S.boxes) (hn : bx.name = r.nm) (g2 : Grow S b0 st1 st2) (cp : bx.kind = "plain" → ∀ n, .box n ∈ bx.row → n ∈ st2.names) (cq : bx.kind = "pair" → ∀ n, bx.row[1]? = some (.box n) → n ∈ st2.names) : FInv S b0 (k + 1) st2 := by
 have e : st2.locked = st.locked := g2.lk.trans g.lk
 refine f.next hr g h1 nd hb hn g2.pre (g2.sh (g.sh f.sh)) (fun x hx => ⟨x.2, by rw [g2.lk]; exact hx, fun m hm => hm⟩) (fun x hx h hh => ?_) ?_ cp fun hk n h => .inl (cq hk n h)
 ·rw [e] at hx
  obtain ⟨b, x1, x2, x3, x4, x5⟩ := f.lo x hx h hh
  exact ⟨b, x1, x2, x3, x4, g2.names _ (g.names _ x5)⟩
 ·rw [e]
  exact ⟨by have := f.ln.1; omega, fun x hx => by have := f.ln.2 x hx; omega⟩
theorem FInv.pairs (f : FInv S b0 k st) (hr : st.rows[k]? = some r) (g : Grow S b0 st st1) (h1 : ∀ x ∈ st.locked, x.1 = r.nm → ∀ h ∈ x.2, ∀ b ∈ S.boxes, b.name = h → ∀ n, b.row[1]? = some (.box n) → n ∈ st1.names)
  (nd : (S.boxes.map (·.name)).Nodup) (hb : bx ∈ S.boxes) (hn : bx.name = r.nm) (hk : bx.kind = "pair") {t0 t1 : T} (e0 : bx.row[0]? = some t0) (e1 : bx.row[1]? = some t1) : FInv S b0 (k + 1) (Qa5 st1 bx.name t0 t1) ∧ ∃ more, (Qa5 st1 bx.name t0 t1).rows = st1.rows ++ more := by
 have hin : bx.name ∈ st1.names := by
  rw [hn]
  exact g.names _ (List.mem_map.mpr ⟨r, List.mem_of_getElem? hr, rfl⟩)
 have np : ¬ bx.kind = "plain" := by rw [hk]; decide +kernel
 have val : (∀ key, t0 = .box key → key ∈ st1.names) → FInv S b0 (k + 1) (st1.addT t1 fun n => .pair n bx.name) ∧ ∃ more, (st1.addT t1 fun n => Rw.pair n bx.name).rows = st1.rows ++ more := fun hkey => by
  have g2 : Grow S b0 st1 (st1.addT t1 fun n => .pair n bx.name) := Grow.addT fun n e => ⟨hin, bx, t0, hb, rfl, hk, by rw [e1, e], e0, hkey⟩
  exact ⟨f.grown hr g h1 nd hb hn g2 (fun z => absurd z np) fun _ n h => QgQ (fun _ => rfl) (by rw [e1] at h; exact Option.some.inj h), g2.pre⟩
 cases t0 with
 | non => exact val fun key e => by cases e
 | num i => exact val fun key e => by cases e
 | box key =>
  show FInv S b0 (k + 1) (if key ∈ st1.names then _ else _) ∧ ∃ more, (if key ∈ st1.names then (_ : SS) else _).rows = _
  by_cases hm : key ∈ st1.names
  ·rw [if_pos hm]
   exact val fun key' e => by cases e; exact hm
  ·rw [if_neg hm]
   have el : st1.locked = st.locked := g.lk
   refine ⟨f.next hr g h1 nd hb hn ⟨[], by simp [SS.lock]⟩ (g.sh f.sh) (fun x hx => Qdh hx) (fun x hx h hh => ?_) ⟨?_, fun x hx => ?_⟩ (fun z => absurd z np) (fun _ n h => .inr ?_), [], by simp [SS.lock]⟩
   ·rcases Qcr hx with z | ⟨z1, z2⟩
    ·rw [el] at z
     obtain ⟨b, x1, x2, x3, x4, x5⟩ := f.lo x z h hh
     exact ⟨b, x1, x2, x3, x4, g.names _ x5⟩
    ·have old : h = bx.name → ∃ b ∈ S.boxes, b.name = h ∧ b.kind = "pair" ∧ b.row[0]? = some (.box x.1) ∧ h ∈ (st1.lock key bx.name).names := fun e => by
      subst e
      exact ⟨bx, hb, rfl, hk, by rw [z1]; exact e0, hin⟩
     rcases z2 with q | ⟨hs, q, e⟩
     ·rw [q] at hh
      exact old (List.mem_singleton.mp hh)
     ·rw [e] at hh
      rcases List.mem_append.mp hh with w | w
      ·rw [el] at q
       obtain ⟨b, x1, x2, x3, x4, x5⟩ := f.lo (key, hs) q h w
       exact ⟨b, x1, x2, x3, by rw [z1]; exact x4, g.names _ x5⟩
      ·exact old (List.mem_singleton.mp w)
   ·have := Qeu st1.locked key bx.name
    show (Zq st1.locked key bx.name).length ≤ k + 1
    rw [el] at this ⊢
    have := f.ln.1
    omega
   ·rcases Qcr hx with z | ⟨z1, z2⟩
    ·rw [el] at z
     have := f.ln.2 x z
     omega
    ·rcases z2 with q | ⟨hs, q, e⟩
     ·rw [q]; simp
     ·rw [el] at q
      have := f.ln.2 (key, hs) q
      rw [e, List.length_append]
      have h3 : hs.length ≤ k := this
      simp; omega
   ·obtain ⟨hs, q1, q2⟩ := Qev st1.locked key bx.name
    refine ⟨key, hs, e0, q1, q2, fun m => hm ?_⟩
    rcases List.mem_append.mp m with z | z
    ·refine g.names _ ?_
     unfold SS.done at z
     obtain ⟨x, hx, ex⟩ := List.mem_map.mp z
     exact List.mem_map.mpr ⟨x, List.mem_of_mem_take hx, ex⟩
    ·rw [List.mem_singleton.mp z, ← hn]; exact hin
end
def QgW (C CS : Addr) : Sp := fun vs H Q _ => ∃ (q p : Addr) (A : HA) (S : HS) (B : SB) (st : SS) (b0 : Option Int) (k : Nat) (r : Rw), vs = [.ref q, .int r.nm] ∧ SH C CS H q p A S B st ∧ FInv S b0 k st ∧ st.rows[k]? = some r ∧
 ∀ B' H' st', UpS C CS H q p A S B H' B' st' → FInv S b0 (k + 1) st' → Q .non H'
section
variable {C CS : Addr}
theorem QcG {f : Addr} (F : Fun K "follow" "Search.follow" Z5 f fd) (T : TX K mg C) (TS : TSx K mg CS) (M1_ : MethOk P w K mg base CS n "add_value" ["self", "holder"] (Qb0 C CS) [[]])
  (M2_ : MethOk P w K mg base C n "kind" ["self", "name"] (QfR C) [[]])
  (M3_ : MethOk P w K mg base CS n "add_fields" ["self", "holder"] (QdZ C CS) [[]])
  (M4_ : MethOk P w K mg base CS n "follow_pair" ["self", "holder"] (Qdc C CS) [[]]) :
  FnOk P w K mg base CX0 (n + 1) f fd ["self", "name"] (QgW C CS) := by
 refine F.ok ZV (by rintro _ _ _ _ ⟨_, _, _, _, _, _, _, _, _, rfl, _⟩; rfl) fun _ _ _ s H vs Q E hr h => ?_
 obtain ⟨q, p, A', S, B, st, b0, k, r, rfl, sh, f, hr', kQ⟩ := h
 have hu := QC hr
 refine ⟨_, (Qc (Za PassesOwn.never rfl (QR (Qjq hu (Qw (pv 0) rfl) (pv 1) (ZR Qe) ⟨rfl, rfl, rfl, rfl⟩)) (QS (i := 2) ZV.nd rfl (Or.inl rfl))
  (Qh (Qk (qm M1_ (pv 0) TS.cl hr (Qa (pv 2) Qe)))))
  (Qc (Qq (i := 3) ZV.nd rfl (Or.inl rfl) (qm M2_ (Qw (pv 0) rfl) T.cl hr (Qa (pv 1) Qe)))
  (Qc (QZ (Qp QaJ (pv 3) Z1 (QF _)) (Qh (Qk (qm M3_ (pv 0) TS.cl hr (Qa (pv 1) Qe)))) Qn)
  (Qh (QZ (Qp QaJ (pv 3) Z1 (QF _)) (Qh (Qk (qm M4_ (pv 0) TS.cl hr (Qa (pv 1) Qe)))) Qn))))), ?_⟩
 have hs := sh.hs
 have nd := sh.hh.nm
 have hrn : r.nm ∈ st.names := List.mem_map.mpr ⟨r, List.mem_of_getElem? hr', rfl⟩
 obtain ⟨bx, hbx, hbn⟩ := List.mem_map.mp (sh.ins _ hrn)
 obtain ⟨ib, hib⟩ := List.getElem?_of_mem hbx
 have hk900 : k < 900 := by have := (List.getElem?_eq_some_iff.mp hr').1; have := sh.few; omega
 refine ⟨_, rfl, q, CS, B.dx, _, _, rfl, hs.ob, TS.cl, TS.n_locked, QfU, B.kd, rfl, .inl ⟨_, Rd.of hs.kd⟩, _, rfl, Nat.zero_le _, fun l hl => ⟨_, DGet.k (k := Sum.inl r.nm) (Zt hs.kd hl), ?_⟩⟩
 have u1 := (UpS.refl sh).new (o := .lst []) hl
 have hl1 : (upd H l (.lst [])) l = some (.lst []) := Qb
 generalize upd H l (.lst []) = H1 at u1 hl1 ⊢
 obtain ⟨a, hs', ev, hst, hmem, hall⟩ : ∃ (a : Addr) (hs' : List Int), (QaP (Qby st.locked B.ll) (Sum.inl r.nm)).getD (.ref l) = .ref a ∧ (∀ (H' : Hp) (st1 : SS), UpS C CS H1 q p A' S B H' B st1 → st1.locked = st.locked → Qhe H' hs' a) ∧
   (∀ h ∈ hs', ∃ x ∈ st.locked, x.1 = r.nm ∧ h ∈ x.2) ∧ (∀ x ∈ st.locked, x.1 = r.nm → ∀ h ∈ x.2, h ∈ hs') := by
  by_cases hin : r.nm ∈ st.locked.map (·.1)
  ·obtain ⟨x, hx, hxe⟩ := List.mem_map.mp hin
   obtain ⟨j, hj⟩ := List.getElem?_of_mem hx
   obtain ⟨k', hs'⟩ := x
   have hxe : k' = r.nm := hxe
   subst hxe
   obtain ⟨a, ha, hia, hva⟩ := hs.lockAt hj
   refine ⟨a, hs', by rw [hva]; rfl, fun H' st1 u e => ?_, fun h hh => ⟨_, hx, rfl, hh⟩, fun y hy e h hh => ?_⟩
   ·obtain ⟨a2, ha2, z⟩ := Q6 u.sh.hs.ll (show st1.locked[j]? = some (r.nm, hs') by rw [e]; exact hj)
    rw [ha] at ha2; cases ha2
    exact z
   ·obtain ⟨j2, hj2⟩ := List.getElem?_of_mem hy
    have e1 : (st.locked.map (·.1))[j2]? = some r.nm := by rw [List.getElem?_map, hj2]; exact congrArg some e
    have e2 : (st.locked.map (·.1))[j]? = some r.nm := by rw [List.getElem?_map, hj]; rfl
    have := Qbp hs.lk e1 e2
    subst this
    rw [hj] at hj2
    cases hj2
    exact hh
  ·have hlf : l ∉ B.foot q := hs.out hl
   refine ⟨l, [], by rw [hs.lockNo hin]; rfl, fun H' st1 u _ => (u.keep hl1 hlf).1, fun h hh => by simp at hh, fun x hx e => absurd (List.mem_map.mpr ⟨x, hx, e⟩) hin⟩
 rw [ev]
 refine ⟨a, rfl, ⟨_, SqL.of (hst H1 st (UpS.refl u1.sh) rfl)⟩, ?_⟩
 refine Zv (K := K) (xs := hs'.map V.int) (fun i σ H' => ∃ v_holder v_kind st1, σ = [some (.ref q), some (.int r.nm), v_holder, v_kind] ∧ UpS C CS H1 q p A' S B H' B st1 ∧ Grow S b0 st st1 ∧ ∀ h ∈ hs'.take i, ∀ b ∈ S.boxes, b.name = h → ∀ n, b.row[1]? = some (.box n) → n ∈ st1.names) ?_ ?_ ?_ ?_
 ·exact ⟨_, _, st, rfl, UpS.refl u1.sh, Grow.refl _, fun h hh => by simp at hh⟩
 ·rintro i σ H2 _ ⟨_, _, st1, rfl, u2, g, _⟩
  exact SqL.of (hst H2 st1 u2 g.lk)
 ·rintro i y σ H2 hy ⟨v1, v2, st1, rfl, u2, g, hdone⟩
  obtain ⟨h, hh, rfl⟩ : ∃ h, hs'[i]? = some h ∧ y = .int h := by
   rw [List.getElem?_map] at hy
   cases e : hs'[i]? with
   | none => rw [e] at hy; cases hy
   | some h => rw [e] at hy; exact ⟨h, rfl, (Option.some.inj hy).symm⟩
  obtain ⟨x, hx, hxe, hhx⟩ := hmem h (List.mem_of_getElem? hh)
  obtain ⟨b, hb, hbn', hbk, hb0, hbin⟩ := f.lo x hx h hhx
  obtain ⟨i2, hi2⟩ := List.getElem?_of_mem hb
  have h2 := sh.ok.pair b hb hbk
  obtain ⟨t1, ht1⟩ : ∃ t1, b.row[1]? = some t1 := ⟨b.row[1]'(by omega), List.getElem?_eq_getElem _⟩
  subst hbn'
  have g2 : Grow S b0 st1 (st1.addT t1 fun n => .pair n b.name) := Grow.addT fun n e => ⟨g.names _ hbin, b, _, hb, rfl, hbk, by rw [ht1, e], hb0, fun key e => by cases e; rw [hxe]; exact g.names _ hrn⟩
  refine ⟨_, rfl, q, B.dx, _, rfl, u2.sh.hs.ob, ZT (by decide +kernel), _, rfl, q, p, A', S, B, st1, i2, b, t1, rfl, u2.sh, hi2, ht1, fun H3 u3 => ?_⟩
  refine ⟨_, _, _, rfl, u2.trans u3, g.trans g2, fun h' hh' b' hb' e' n hn => ?_⟩
  rw [List.take_add_one, hh] at hh'
  rcases List.mem_append.mp hh' with z | z
  ·exact g2.names n (hdone h' z b' hb' e' n hn)
  ·have z : h' = b.name := by simpa using z
   have e := ZS nd hb' hb (e'.trans z)
   subst e
   exact QgQ (fun _ => rfl) (by rw [ht1] at hn; exact Option.some.inj hn)
 ·rintro σ H2 ⟨v1, v2, st1, rfl, u2, g, hdone⟩
  rw [List.length_map, List.take_length] at hdone
  have h1 : ∀ x ∈ st.locked, x.1 = r.nm → ∀ h ∈ x.2, ∀ b ∈ S.boxes, b.name = h → ∀ n, b.row[1]? = some (.box n) → n ∈ st1.names := fun x hx e h hh => hdone h (hall x hx e h hh)
  have ux : UpS C CS H q p A' S B H2 B st1 := u1.trans u2
  have hin1 : bx.name ∈ st1.names := by rw [hbn]; exact g.names _ hrn
  rw [← hbn]
  refine ⟨_, rfl, q, CS, B.dx, _, _, rfl, ux.sh.hs.ob, TS.cl, TS.n_house, Qa7, p, A'.dx, _, rfl, ux.sh.hh.ob, Ql, _, rfl, p, A', S, ib, bx, rfl, ux.sh.hh, hib, ?_⟩
  refine ⟨_, rfl, rfl, _, rfl, QdI (fun hp => ?_) (fun hp => ?_)⟩
  ·have hp : bx.kind = "plain" := by simpa using hp
   refine ⟨_, rfl, q, B.dx, _, rfl, ux.sh.hs.ob, ZT (by decide +kernel), _, rfl, q, p, A', S, B, st1, ib, bx, rfl, ux.sh, hib, fun H3 u3 => ?_⟩
   obtain ⟨g2, inn⟩ := Grow.addTs (S := S) (b0 := b0) (st := st1) (mk := fun n at_ => .plain n bx.name at_) (ts := bx.row) (fun _ _ => rfl) fun i n e => ⟨hin1, bx, i, hbx, rfl, hp, rfl, e⟩
   have np : ¬ bx.kind = "pair" := by rw [hp]; decide +kernel
   refine ⟨_, rfl, rfl, _, rfl, QdI (fun h => absurd (by simpa using h) np) (fun _ => ?_)⟩
   exact kQ B H3 _ (ux.trans u3) (f.grown hr' g h1 nd hbx hbn g2 (fun _ => inn) fun h => absurd h np)
  ·have hp : ¬ bx.kind = "plain" := by simpa using hp
   refine ⟨_, rfl, rfl, _, rfl, QdI (fun h => ?_) (fun h => ?_)⟩
   ·have hq : bx.kind = "pair" := by simpa using h
    have h2 := sh.ok.pair bx hbx hq
    obtain ⟨t0, ht0⟩ : ∃ t0, bx.row[0]? = some t0 := ⟨bx.row[0]'(by omega), List.getElem?_eq_getElem _⟩
    obtain ⟨t1, ht1⟩ : ∃ t1, bx.row[1]? = some t1 := ⟨bx.row[1]'(by omega), List.getElem?_eq_getElem _⟩
    have el : st1.locked = st.locked := g.lk
    refine ⟨_, rfl, q, B.dx, _, rfl, ux.sh.hs.ob, ZT (by decide +kernel), _, rfl, q, p, A', S, B, st1, ib, bx, t0, t1, rfl, ux.sh, hib, ht0, ht1, by rw [el]; have := f.ln.1; omega, by rw [el]; intro x hx; have := f.ln.2 x hx; omega, fun B3 H3 u3 => ?_⟩
    exact kQ B3 H3 _ (ux.trans u3) (f.pairs hr' g h1 nd hbx hbn hq ht0 ht1).1
   ·have hq : ¬ bx.kind = "pair" := by simpa using h
    exact kQ B H2 _ ux (f.grown hr' g h1 nd hbx hbn (Grow.refl _) (fun z => absurd z hp) fun z => absurd z hq)
end
inductive QcS (S : HS) (b0 : Option Int) : Int → Prop where
 | slot {n : Int} : .box n ∈ S.slots → QcS S b0 n
 | told {n : Int} {xs : List Int} : xs ∈ S.told → n ∈ xs → QcS S b0 n
 | bes {n : Int} : b0 = some n → QcS S b0 n
 | plain {b : Box} {n : Int} : b ∈ S.boxes → b.kind = "plain" → QcS S b0 b.name → .box n ∈ b.row → QcS S b0 n
 | pairN {b : Box} {t : T} {n : Int} : b ∈ S.boxes → b.kind = "pair" → QcS S b0 b.name → b.row[0]? = some t → (∀ k, t ≠ .box k) → b.row[1]? = some (.box n) → QcS S b0 n
 | pairK {b : Box} {k n : Int} : b ∈ S.boxes → b.kind = "pair" → QcS S b0 b.name → b.row[0]? = some (.box k) → QcS S b0 k → b.row[1]? = some (.box n) → QcS S b0 n
structure Closed (S : HS) (b0 : Option Int) (ns : List Int) : Prop where
 r1 : ∀ n, .box n ∈ S.slots → n ∈ ns
 r2 : ∀ xs ∈ S.told, ∀ n ∈ xs, n ∈ ns
 r3 : ∀ n, b0 = some n → n ∈ ns
 pl : ∀ b ∈ S.boxes, b.name ∈ ns → b.kind = "plain" → ∀ n, .box n ∈ b.row → n ∈ ns
 pr : ∀ b ∈ S.boxes, b.name ∈ ns → b.kind = "pair" → ∀ t n, b.row[0]? = some t → (∀ k, t = .box k → k ∈ ns) → b.row[1]? = some (.box n) → n ∈ ns
theorem FInv.closed {S : HS} {b0 : Option Int} {st : SS} (f : FInv S b0 st.rows.length st) : Closed S b0 st.names := by
 have e : st.done st.rows.length = st.names := by unfold SS.done SS.names; rw [List.take_length]
 refine ⟨f.r1, f.r2, f.r3, fun b hb hn => ?_, fun b hb hn hk t n h0 hkey h1 => ?_⟩
 ·exact f.pl b hb (by rw [e]; exact hn)
 ·rcases f.pr b hb (by rw [e]; exact hn) hk n h1 with z | ⟨key, hs, x1, _, _, x4⟩
  ·exact z
  ·rw [h0] at x1
   cases x1
   rw [e] at x4
   exact absurd (hkey key rfl) x4
theorem Closed.held {S : HS} {b0 : Option Int} {ns : List Int} (c : Closed S b0 ns) {n : Int} (h : QcS S b0 n) : n ∈ ns := by
 induction h with
 | slot h => exact c.r1 _ h
 | told h h2 => exact c.r2 _ h _ h2
 | bes h => exact c.r3 _ h
 | plain hb hk _ hr ih => exact c.pl _ hb ih hk _ hr
 | pairN hb hk _ h0 hn h1 ih => exact c.pr _ hb ih hk _ _ h0 (fun k e => absurd e (hn k)) h1
 | pairK hb hk _ h0 _ h1 ih ih2 => exact c.pr _ hb ih hk _ _ h0 (fun k e => by cases e; exact ih2) h1
theorem Shown.held {S : HS} {b0 : Option Int} {rows : List Rw} (h : Shown S b0 rows) : ∀ n ∈ rows.map Rw.nm, QcS S b0 n := by
 have go : ∀ j, j ≤ rows.length → ∀ n ∈ (rows.take j).map Rw.nm, QcS S b0 n := by
  intro j
  induction j with
  | zero => intro _ n hn; simp at hn
  | succ j ih =>
   intro hj n hn
   have ih := ih (by omega)
   obtain ⟨r, hr⟩ : ∃ r, rows[j]? = some r := ⟨rows[j], List.getElem?_eq_getElem (by omega)⟩
   rw [List.take_add_one, hr, List.map_append] at hn
   rcases List.mem_append.mp hn with z | z
   ·exact ih n z
   ·have z : n = r.nm := by simpa using z
    subst z
    have js := h j r hr
    cases r with
    | slot n s => obtain ⟨i, _, e⟩ := js; exact .slot (List.mem_of_getElem? e)
    | told n g => obtain ⟨i, xs, _, e, hx⟩ := js; exact .told (List.mem_of_getElem? e) hx
    | bes n => exact .bes js
    | plain n k a =>
     obtain ⟨h1, b, i, hb, hbn, hbk, _, e⟩ := js
     exact .plain hb hbk (by rw [hbn]; exact ih _ h1) (List.mem_of_getElem? e)
    | pair n k =>
     obtain ⟨h1, b, t, hb, hbn, hbk, e1, e0, hk⟩ := js
     have hh : QcS S b0 b.name := by rw [hbn]; exact ih _ h1
     cases t with
     | non => exact .pairN hb hbk hh e0 (fun k e => by cases e) e1
     | num i => exact .pairN hb hbk hh e0 (fun k e => by cases e) e1
     | box key => exact .pairK hb hbk hh e0 (ih _ (hk key rfl)) e1
 have := go rows.length (Nat.le_refl _)
 rw [List.take_length] at this
 exact this
def QdX (C CS : Addr) : Sp := fun vs H Q _ => ∃ (q p : Addr) (A : HA) (S : HS) (B : SB) (st : SS) (b0 : Option Int), vs = [.ref q] ∧ SH C CS H q p A S B st ∧ FInv S b0 0 st ∧
 ∀ B' H' st', UpS C CS H q p A S B H' B' st' → FInv S b0 st'.rows.length st' → Q .non H'
def QhW (CS : Addr) : Sp := fun vs H Q _ => ∃ (q p dx : Addr), vs = [.ref q, .ref p] ∧ H q = some (.ins CS dx []) ∧ ∀ B' H', SearchAt CS H' q p B' ⟨[], []⟩ → Frame [q] H H' → Tups H H' → Grown [q] (B'.foot q) H → Q .non H'
def besV : Option Int → V
 | none => .non
 | some n => .int n
def QhS (C : Addr) : Sp := fun vs H Q _ => ∃ (p : Addr) (A : HA) (S : HS) (b0 : Option Int), vs = [.ref p, besV b0] ∧ HouseAt C H p A S ∧ S.Ok ∧ (∀ n, b0 = some n → n ∈ names S) ∧
 ∀ l rows H', Same H H' → H l = none → Qkd H' l rows → Shown S b0 rows → (rows.map Rw.nm).Nodup → Closed S b0 (rows.map Rw.nm) → (∀ n ∈ rows.map Rw.nm, n ∈ names S) → Q (.ref l) H'
def QgV (C : Addr) : Sp := fun vs H Q _ => ∃ (p : Addr) (A : HA) (S : HS) (b0 : Option Int), vs = [.ref p, besV b0] ∧ HouseAt C H p A S ∧ S.Ok ∧ S.boxes.length < 64 ∧ (∀ n, b0 = some n → n ∈ names S) ∧
 ∀ (l : Addr) (ns : List Int) (H' : Hp), Same H H' → H l = none → H' l = some (.lst (ns.map V.int)) → ns.Pairwise (· < ·) → (∀ n, n ∈ ns ↔ QcS S b0 n) → Q (.ref l) H'
theorem Qhu (p rl ld kd : Addr) : QcC "locked" (V.ref kd) (QcC "listed" (V.ref ld) (QcC "rows" (V.ref rl) (QcC "house" (V.ref p) []))) = QfW p ⟨0, rl, ld, kd, []⟩ := by
 kernel_rfl
def atOf : St → Nat
 | [_, some (V.int i)] => (901 - i).toNat
 | _ => 0
section
variable {C CS : Addr}
theorem Qbt {f : Addr} (F : Fun K "follow_all" "Search.follow_all" Zk f fd) (T : TX K mg C) (TS : TSx K mg CS) (M1_ : MethOk P w K mg base CS n "follow" ["self", "name"] (QgW C CS) [[]]) :
  FnOk P w K mg base CX0 (n + 1) f fd ["self"] (QdX C CS) := by
 refine F.ok Ze (by rintro _ _ _ _ ⟨_, _, _, _, _, _, _, rfl, _⟩; rfl) fun _ _ _ s H vs Q E hr h => ?_
 obtain ⟨q, p, A', S, B, st, b0, rfl, sh, f, kQ⟩ := h
 have hu := QC hr
 refine ⟨_, (Qc (Qq (i := 1) Ze.nd rfl (Or.inl rfl) Qi)
  (Qh (Qg0 PassesOwn.never (Qp Qii (pv 1) (Qy Qt (by rfl) T.g_len PySem.boot_len (Qa (Qw (pv 0) rfl) Qe)) (QF _))
  (Qc (Qk (qm M1_ (pv 0) TS.cl hr (Qa (QG Q7 (QG QI (Qw (pv 0) rfl) (pv 1) (fun _ _ => rfl)) Qi (fun _ _ => rfl)) Qe)))
  (Qh (ps_aug (i := 1) Ze.nd rfl (Or.inl rfl) Qi ip_add)))))), ?_⟩
 refine QgT (fun σ H' => ∃ (k : Nat) (B1 : SB) (st1 : SS), σ = [some (.ref q), some (.int k)] ∧ UpS C CS H q p A' S B H' B1 st1 ∧ FInv S b0 k st1) (fun σ _ => atOf σ) ⟨0, B, st, rfl, UpS.refl sh, f⟩ ?_ ?_
 ·rintro σ H1 ⟨k, B1, st1, rfl, u, f1⟩
  obtain ⟨vs, hv, pr⟩ := u.sh.hs.rl
  refine ⟨_, rfl, _, rfl, q, CS, B1.dx, _, _, rfl, u.sh.hs.ob, TS.cl, TS.n_rows, Qd0, B1.rl, vs, rfl, .inl (SqL.of hv), _, _, rfl, rfl, _, rfl, QdI (fun h => ?_) (fun h => ?_)⟩
  ·have h : (k : Int) < (vs.length : Int) := of_decide_eq_true h
   have hk : k < st1.rows.length := by rw [pr_len pr]; omega
   obtain ⟨r, hr'⟩ : ∃ r, st1.rows[k]? = some r := ⟨st1.rows[k], List.getElem?_eq_getElem hk⟩
   obtain ⟨v, hx, a, rfl, hta⟩ := Q6 pr hr'
   obtain ⟨more, hvs⟩ := r.first
   have hix : atI r.vs 0 = some (.int r.nm) := by rw [hvs]; exact Zh (j := 0) rfl
   have few := u.sh.few
   refine ⟨_, rfl, q, B1.dx, _, rfl, u.sh.hs.ob, ZT (by decide +kernel), _, rfl, q, CS, B1.dx, _, _, rfl, u.sh.hs.ob, TS.cl, TS.n_rows, Qd0, _, rfl, B1.rl, vs, k, .ref a, rfl, rfl, SqL.of hv, Zh hx, a, _, 0, .int r.nm, rfl, rfl, SqT.of hta, hix, ?_⟩
   refine ⟨q, p, A', S, B1, st1, b0, k, r, rfl, u.sh, f1, hr', fun B2 H2 st2 u2 f2 => ?_⟩
   refine ⟨_, rfl, k, 1, rfl, rfl, ⟨k + 1, B2, st2, rfl, u.trans u2, f2⟩, ?_⟩
   show (901 - ((k : Int) + 1)).toNat < (901 - (k : Int)).toNat
   omega
  ·have h : ¬ (k : Int) < (vs.length : Int) := fun z => h (decide_eq_true z)
   have e : k = st1.rows.length := by have := f1.le; have := pr_len pr; omega
   subst e
   exact kQ B1 H1 st1 u f1
 ·intro σ H1 Q1 Q2 hQ h
  obtain ⟨v, e1, v2, e2, x1, x2, x3, x4, x5, e3, e4, c1, c2, e5, y1, y2, e6, e7, z1, z2, e8, e9, z3, e10, z⟩ := h
  exact ⟨v, e1, v2, e2, x1, x2, x3, x4, x5, e3, e4, c1, c2, e5, y1, y2, e6, e7, z1, z2, e8, e9, z3, e10, hQ _ _ z⟩
end
theorem QfA {X : Cx} {K' : Fg} (h : X.K = K') : IxR X (rIxT K') := h ▸ Q7
theorem QiU {X : Cx} {K' : Fg} (h : X.K = K') : QeE X (Value.builtin "isinstance") (fun xs H Q => ∃ x T t b, xs = [x, V.ty T] ∧ TyOf K' H x t ∧ PySem.W.kitOne K' t (Value.type T) = some b ∧ Q (V.bl b) H) := h ▸ QdM
section
variable {S : HS} {b0 : Option Int}
theorem Grow.addNs {g : Nat} {xs : List Int} (he : S.told[g]? = some xs) : ∀ {ns : List Int} {st : SS}, (∀ n ∈ ns, n ∈ xs) → Grow S b0 st (addNs g st ns) ∧ ∀ n ∈ ns, n ∈ (addNs g st ns).names
 | [], st, _ => ⟨Grow.refl _, fun n hn => by cases hn⟩
 | n :: ns, st, h => by
  have a : Grow S b0 st (st.add (.told n g)) := Grow.add ⟨g, xs, rfl, he, h n (by simp)⟩
  have b := Grow.addNs he (ns := ns) (st := st.add (.told n g)) fun m hm => h m (by simp [hm])
  refine ⟨a.trans b.1, fun m hm => ?_⟩
  rcases List.mem_cons.mp hm with rfl | hm
  ·exact b.1.names _ (QfJ _ (.told m g))
  ·exact b.2 m hm
theorem Grow.toldFrom : ∀ {tss : List (List Int)} {j : Nat} {st : SS}, (∀ i xs, tss[i]? = some xs → S.told[j + i]? = some xs) →
  Grow S b0 st ((tss.zipIdx j).foldl (fun st x => LW.addNs x.2 st x.1) st) ∧ ∀ xs ∈ tss, ∀ n ∈ xs, n ∈ ((tss.zipIdx j).foldl (fun st x => LW.addNs x.2 st x.1) st).names
 | [], j, st, _ => ⟨Grow.refl _, fun n hn => by cases hn⟩
 | xs :: tss, j, st, h => by
  have a := Grow.addNs (b0 := b0) (h 0 xs rfl) (ns := xs) (st := st) fun n hn => hn
  have b := Grow.toldFrom (tss := tss) (j := j + 1) (st := LW.addNs j st xs) fun i ys e => by
   have := h (i + 1) ys e
   rwa [show j + (i + 1) = j + 1 + i by omega] at this
  refine ⟨a.1.trans b.1, fun ys hy n hn => ?_⟩
  rcases List.mem_cons.mp hy with rfl | hy
  ·exact b.1.names _ (a.2 n hn)
  ·exact b.2 ys hy n hn
theorem Grow.told (st : SS) : Grow S b0 st (Qbm st S.told) ∧ ∀ xs ∈ S.told, ∀ n ∈ xs, n ∈ (Qbm st S.told).names :=
 Grow.toldFrom (j := 0) fun i xs e => by rw [Nat.zero_add]; exact e
theorem Grow.slots (st : SS) : Grow S b0 st (LW.addTs (fun n s => .slot n s) st S.slots) ∧ ∀ n, .box n ∈ S.slots → n ∈ (LW.addTs (fun n s => .slot n s) st S.slots).names :=
 Grow.addTs (fun _ _ => rfl) fun i n e => ⟨i, rfl, e⟩
theorem FInv.start {st : SS} (g : Grow S b0 ⟨[], []⟩ st) (r1 : ∀ n, .box n ∈ S.slots → n ∈ st.names) (r2 : ∀ xs ∈ S.told, ∀ n ∈ xs, n ∈ st.names) (r3 : ∀ n, b0 = some n → n ∈ st.names) : FInv S b0 0 st := by
 obtain ⟨_, lk, shw⟩ := g
 have lk : st.locked = [] := lk
 refine ⟨shw (fun i r e => by cases e), Nat.zero_le _, r1, r2, r3, fun b _ h => ?_, fun b _ h => ?_, fun x hx => ?_, ?_⟩
 ·simp [SS.done] at h
 ·simp [SS.done] at h
 ·rw [lk] at hx; cases hx
 ·rw [lk]; exact ⟨Nat.le_refl _, fun x hx => by cases hx⟩
end
section
variable {C CS : Addr}
theorem Qds {f : Addr} (F : Fun K "__init__" "Search.__init__" Qaw f fd) (T : TX K mg C) (TS : TSx K mg CS)  :
  FnOk P w K mg base CX0 (n + 1) f fd ["self", "house"] (QhW CS) := by
 refine F.ok Qdk (by rintro _ _ _ _ ⟨_, _, _, rfl, _⟩; rfl) fun _ _ _ s H vs Q E hr h => ?_
 obtain ⟨q, p, dx, rfl, hq, k⟩ := h
 have hu := QC hr
 refine ⟨_, (Qc (Qbo (pv 0) (pv 1) rfl)
  (Qc (Qbo (pv 0) (ZR Qe) rfl)
  (Qc (Qbo (pv 0) Qaq rfl)
  (Qh (Qbo (pv 0) Qaq rfl))))), ?_⟩
 refine ⟨_, rfl, _, rfl, q, CS, dx, _, rfl, hq, TS.cl, TS.n_house, (by show 0 < 1000; decide), ?_⟩
 refine ⟨by decide, fun l hl => ?_⟩
 have p1 : q ≠ l := Qd Qb hl
 refine ⟨_, rfl, q, CS, dx, _, rfl, (by rw [Qf p1]; exact Qb), TS.cl, TS.n_rows, (by show 1 < 1000; decide), ?_⟩
 intro d1 hd1
 have p2 : q ≠ d1 := Qd Qb hd1
 refine ⟨_, rfl, q, CS, dx, _, rfl, (by rw [Qf p2]; exact Qb), TS.cl, TS.n_listed, (by show 2 < 1000; decide), ?_⟩
 intro d2 hd2
 have p3 : q ≠ d2 := Qd Qb hd2
 refine ⟨_, rfl, q, CS, dx, _, rfl, (by rw [Qf p3]; exact Qb), TS.cl, TS.n_locked, (by show 3 < 1000; decide), ?_⟩
 rw [Qhu]
 have fl : H l = none := Qaj hl
 have f1 : H d1 = none := Qaj (Qaj (Qaj hd1))
 have f2 : H d2 = none := Qaj (Qaj (Qaj (Qaj (Qaj hd2))))
 have l1 : d1 ≠ d2 := Qd (Qbk Qb p2.symm) hd2
 refine k ⟨dx, l, d1, d2, []⟩ _ ⟨Qb, ⟨[], Qbk (Zt (Qbk (Zt (Qbk Qb p1.symm) hd1) p1.symm) hd2) p1.symm, .nil⟩, Qbk (Zt (Qbk Qb p2.symm) hd2) p2.symm, Qbk Qb p3.symm, .nil, by simp, l1, List.nodup_nil, List.nodup_nil⟩ (fun b o h n => ?_) (fun b xs h => ?_) (fun b hb => ?_)
 ·have n : b ≠ q := fun e => n (by simp [e])
  exact Qbk (Zt (Qbk (Zt (Qbk (Zt (Qbk h n) hl) n) hd1) n) hd2) n
 ·have n : b ≠ q := fun e => by subst e; rw [hq] at h; cases h
  exact Qbk (Zt (Qbk (Zt (Qbk (Zt (Qbk h n) hl) n) hd1) n) hd2) n
 ·simp [SB.foot] at hb
  rcases hb with rfl | rfl | rfl | rfl
  ·exact .inl (by simp)
  ·exact .inr f1
  ·exact .inr f2
  ·exact .inr fl
theorem Qho {f : Addr} {ds : List Value} (F : FunD K "paper" "paper" Qeb f fd ds) (T : TX K mg C) (TS : TSx K mg CS) (D1_ : MakeOk P w K mg base CS n ["self", "house"] (QhW CS) [[]])
  (M2_ : MethOk P w K mg base CS n "add_slots" ["self"] (QeU C CS) [[]])
  (M3_ : MethOk P w K mg base CS n "add_told" ["self"] (QfS C CS) [[]])
  (M4_ : MethOk P w K mg base CS n "add_row" ["self", "row"] (Qb1 CS) [[]])
  (M5_ : MethOk P w K mg base CS n "follow_all" ["self"] (QdX C CS) [[]]) :
  FnOk P w K mg base CX0 (n + 1) f fd ["house", "besides"] (QhS C) := by
 obtain ⟨fI1_, fdI1_, jI1_, hjI1_, MK1_, GI1_, bI1_⟩ := D1_
 refine F.ok QeW (by rintro _ _ _ _ ⟨_, _, _, _, rfl, _⟩; rfl) fun _ _ _ s H vs Q E hr h => ?_
 obtain ⟨p, A', S, b0, rfl, hh, ok, hb0, k⟩ := h
 have hu := QC hr
 refine ⟨_, (Qc (Qq (i := 2) QeW.nd rfl (Or.inl rfl) (Qic MK1_ GI1_ (hr.mono hjI1_) (by rfl) TS.g_search (bI1_ [] (by simp)) .nil QgC (Qa (pv 0) Qe)))
  (Qc (Qk (qm0 M2_ (pv 2) TS.cl hr))
  (Qc (Qk (qm0 M3_ (pv 2) TS.cl hr))
  (Qc (QZ (QaL (Qco (pv 1))) (Qh (Qk (qm M4_ (pv 2) TS.cl hr (Qa (Qan (Qa (pv 1) (Qa Z1 Qe))) Qe)))) Qn)
  (Qc (Qk (qm0 M5_ (pv 2) TS.cl hr))
  (Qh (Qs (Qw (pv 2) rfl)))))))), ?_⟩
 refine ⟨_, rfl, fun x dx nx ndx nex => ?_⟩
 refine ⟨x, p, dx, rfl, Qb, fun B1 H1 hs1 fr1 tu1 gr1 => ⟨rfl, ?_⟩⟩
 have s1 : Same H H1 := fun b o e => fr1 b o (Qbk (Zt e ndx) (Qd e nx)) (by simpa using Qd e nx)
 have f1 : ∀ b ∈ B1.foot x, H b = none := fun b hb => by
  rcases gr1 b hb with z | z
  ·rw [List.mem_singleton.mp z]; exact nx
  ·exact Qaj (Qaj z)
 have sh1 : SH C CS H1 x p A' S B1 ⟨[], []⟩ := ⟨hs1, hh.same s1, fun b hb z => hh.out (f1 b z) hb, fun n hn => (by cases hn), ok⟩
 have fin : ∀ B5 H5 st5, UpS C CS H1 x p A' S B1 H5 B5 st5 → FInv S b0 st5.rows.length st5 → Q (.ref B5.rl) H5 := fun B5 H5 st5 u f => by
  have hr5 : H B5.rl = none := by
   rcases u.gr B5.rl (by simp [SB.foot]) with z | z
   ·exact f1 _ z
   ·cases e : H B5.rl with
    | none => rfl
    | some o => rw [s1 _ _ e] at z; cases z
  exact k B5.rl st5.rows H5 (fun b o e => u.fr b o (s1 b o e) (fun z => by rw [f1 b z] at e; cases e)) hr5 u.sh.hs.rl f.sh u.sh.hs.un f.closed u.sh.ins
 refine ⟨_, rfl, x, B1.dx, _, rfl, sh1.hs.ob, ZT (by decide +kernel), ?_⟩
 refine ⟨x, p, A', S, B1, _, rfl, sh1, fun H2 u2 => ?_⟩
 refine ⟨_, rfl, x, B1.dx, _, rfl, u2.sh.hs.ob, ZT (by decide +kernel), ?_⟩
 refine ⟨x, p, A', S, B1, _, rfl, u2.sh, fun H3 u3 => ?_⟩
 have u3 := u2.trans u3
 have g1 := Grow.slots (S := S) (b0 := b0) ⟨[], []⟩
 have g2 := Grow.told (S := S) (b0 := b0) (addTs (fun n s => .slot n s) ⟨[], []⟩ S.slots)
 have g := g1.1.trans g2.1
 have r1 := fun n h => g2.1.names n (g1.2 n h)
 have r2 := g2.2
 generalize Qbm (addTs (fun n s => .slot n s) ⟨[], []⟩ S.slots) S.told = st3 at u3 g r1 r2
 cases b0 with
 | none =>
  refine ⟨_, rfl, _, rfl, Qbz ?_⟩
  refine ⟨_, rfl, x, B1.dx, _, rfl, u3.sh.hs.ob, ZT (by decide +kernel), ?_⟩
  refine ⟨x, p, A', S, B1, _, none, rfl, u3.sh, FInv.start g r1 r2 (fun n e => by cases e), fun B5 H5 st5 u5 f5 => ?_⟩
  exact ⟨_, rfl, x, CS, B5.dx, _, _, rfl, u5.sh.hs.ob, TS.cl, TS.n_rows, Qd0, fin B5 H5 st5 (u3.trans u5) f5⟩
 | some m =>
  refine ⟨_, rfl, _, rfl, Qcd ⟨_, rfl, x, B1.dx, _, rfl, u3.sh.hs.ob, ZT (by decide +kernel), _, rfl, zl, fun r hr => ?_⟩⟩
  have u4 := u3.new (o := .tup (Rw.bes m).vs) hr
  refine ⟨x, p, r, B1, _, .bes m, rfl, u4.sh.hs, Qb, by have := u4.sh.few; omega, fun H4 h4 fr4 tu4 => ?_⟩
  have u5 := u4.step h4 fr4 tu4 (Grown.refl _ _) (SS.add_ins u4.sh.ins (hb0 m rfl))
  have g5 : Grow S (some m) st3 (st3.add (.bes m)) := Grow.add rfl
  refine ⟨_, rfl, x, B1.dx, _, rfl, u5.sh.hs.ob, ZT (by decide +kernel), ?_⟩
  refine ⟨x, p, A', S, B1, _, some m, rfl, u5.sh, FInv.start (g.trans g5) (fun n h => g5.names n (r1 n h)) (fun xs h n hn => g5.names n (r2 xs h n hn)) (fun n e => by cases e; exact QfJ st3 (.bes m)), fun B6 H6 st6 u6 f6 => ?_⟩
  exact ⟨_, rfl, x, CS, B6.dx, _, _, rfl, u6.sh.hs.ob, TS.cl, TS.n_rows, Qd0, fin B6 H6 st6 (u5.trans u6) f6⟩
end
section
variable {C CS : Addr}
theorem QfI : QD (Qg Qa0) ["house", "besides"] (QP ((QiW 0 (QjY (QeR (Qo Qa0) 0))))) "row" [] [] :=
 bsk
theorem QgF {f : Addr} {ds : List Value} (F : FunD K "living" "living" Qa0 f fd ds) (T : TX K mg C) (D1_ : DefOk P w K mg base n "paper" ["house", "besides"] (QhS C) [[], [.none]]) :
  FnOk P w K mg base CX0 (n + 1) f fd ["house", "besides"] (QgV C) := by
 refine F.ok Qgw (by rintro _ _ _ _ ⟨_, _, _, _, rfl, _⟩; rfl) fun _ _ _ s H vs Q E hr h => ?_
 obtain ⟨p, A', S, b0, rfl, hh, ok, h64, hb0, k⟩ := h
 have hu := QC hr
 refine ⟨_, (Qh (Qs (Qy Qgj (by rfl) T.g_sorted PyProof.Rows.boot_sorted (Qa (QaZ QfI rfl (QR (qc D1_ hr (Qa (pv 0) (Qa (pv 1) Qe)))) (fun _ _ _ _ => QaM) (fun _ _ _ _ => (QG (QfA (K' := K) rfl) (pv 0) Qi (fun _ _ => rfl)))) Qe)))), ?_⟩
 refine ⟨_, rfl, _, rfl, p, A', S, b0, rfl, hh, ok, hb0, fun l rows H1 s1 nl hrows shw nd cl ins => ?_⟩
 obtain ⟨vs, hv, pr⟩ := hrows
 have len := pr_len pr
 have few : rows.length < 64 := by
  have := QbO nd ins
  simp [names] at this
  omega
 refine ⟨l, rfl, ⟨_, SqL.of hv⟩, ?_⟩
 refine Z2 (xs := vs) (fun i ys H' => H' = H1 ∧ ys = (rows.take i).map fun r => V.int r.nm) ⟨rfl, rfl⟩ ?_ (Nat.le_trans (by omega) (show 64 ≤ sizeLine by decide)) ?_ ?_ ?_
 ·rintro i ys H' ⟨_, rfl⟩
  rw [List.length_map, List.length_take]; omega
 ·rintro i ys H' _ ⟨rfl, _⟩
  exact SqL.of hv
 ·rintro i x ys H' hx ⟨rfl, rfl⟩
  obtain ⟨r, hr', a, rfl, hta⟩ := pr_getR pr hx
  obtain ⟨more, hvs⟩ := r.first
  have hix : atI r.vs 0 = some (.int r.nm) := by rw [hvs]; exact Zh (j := 0) rfl
  unfold Qfc
  dsimp only
  rw [if_pos rfl]
  refine ⟨_, rfl, a, _, 0, .int r.nm, rfl, rfl, SqT.of hta, hix, rfl, ?_⟩
  rw [List.take_add_one, hr', List.map_append]; rfl
 ·rintro ys H' ⟨rfl, rfl⟩ a ha
  rw [← len, List.take_length]
  have s2 := s1.trans (Same.new (o := .lst (rows.map fun r => V.int r.nm)) ha)
  refine ⟨a, rows.map Rw.nm, rfl, SqL.of (by rw [Qb, List.map_map]; rfl), by simpa using few, fun b ns' hb hp hs => ?_⟩
  have hb0' : H b = none := by
   cases e : H b with
   | none => rfl
   | some o => rw [s2 _ _ e] at hb; cases hb
  exact k b ns' _ (s2.trans (Same.new hb)) hb0' Qb ((hs.and (hp.nodup_iff.mpr nd)).imp fun z => by have z1 := z.1; have z2 := z.2; omega) fun n => hp.mem_iff.trans ⟨shw.held n, cl.held⟩
end
def Qv : List T → List Int
 | [] => []
 | .box n :: ts => n :: Qv ts
 | _ :: ts => Qv ts
theorem ZG : ∀ (a b : List T), Qv (a ++ b) = Qv a ++ Qv b
 | [], b => rfl
 | .box n :: ts, b => by simp [Qv, ZG ts b]
 | .non :: ts, b => by simp [Qv, ZG ts b]
 | .num m :: ts, b => by simp [Qv, ZG ts b]
theorem ZN {n : Int} : ∀ {ts : List T}, n ∈ Qv ts ↔ .box n ∈ ts
 | [] => by simp [Qv]
 | .box m :: ts => by simp [Qv, ZN (ts := ts)]
 | .non :: ts => by simp [Qv, ZN (ts := ts)]
 | .num m :: ts => by simp [Qv, ZN (ts := ts)]
theorem Qau : ∀ (ts : List T), (Qv ts).length ≤ ts.length
 | [] => Nat.le_refl _
 | .box m :: ts => by have := Qau ts; simp [Qv]; omega
 | .non :: ts => by have := Qau ts; simp [Qv]; omega
 | .num m :: ts => by have := Qau ts; simp [Qv]; omega
def Qgv : Sp := fun vs H Q _ => ∃ (a : Addr) (ts : List T), vs = [.ref a] ∧ ThL H ts a ∧ ts.length ≤ 900 ∧ ∀ l H', Same H H' → H l = none → H' l = some (.lst ((Qv ts).map V.int)) → Q (.ref l) H'
section
variable {C CS : Addr}
theorem QdE : QD (Qg Z0) ["things"] (QP ((QjY (QeR (Qo Z0) 0)))) "thing" [] [] :=
 bsk
theorem QeP {f : Addr} (F : Fun K "_law_boxes" "_law_boxes" Z0 f fd) (T : TX K mg C)  :
  FnOk P w K mg base CX0 (n + 1) f fd ["things"] (Qgv) := by
 refine F.ok QeG (by rintro _ _ _ _ ⟨_, _, rfl, _⟩; rfl) fun _ _ _ s H vs Q E hr h => ?_
 obtain ⟨a, ts, rfl, hts, few, k⟩ := h
 have hu := QC hr
 refine ⟨_, (Qh (Qs (QaZ QdE rfl (QR (pv 0)) (fun _ _ _ _ => (Qbi (Qch (Qy (QiU (K' := K) rfl) (by rfl) T.g_isi PyProof.Rows.boot_isinstance (Qa (pv 0) (Qa (Qfm (v := .ty "tuple") (by rfl) T.g_tuple PyProof.Rows.boot_tuple rfl) Qe)))))) (fun _ _ _ _ => (QG (QfA (K' := K) rfl) (pv 0) Qi (fun _ _ => rfl)))))), ?_⟩
 obtain ⟨vs, hv, pr⟩ := hts
 have len := pr_len pr
 refine ⟨_, rfl, a, rfl, ⟨_, SqL.of hv⟩, ?_⟩
 refine Z2 (xs := vs) (fun i ys H' => H' = H ∧ ys = (Qv (ts.take i)).map V.int) ⟨rfl, rfl⟩ ?_ (Nat.le_trans (by omega) (show 900 ≤ sizeLine by decide)) ?_ ?_ ?_
 ·rintro i ys H' ⟨_, rfl⟩
  have := Qau (ts.take i)
  rw [List.length_map]
  rw [List.length_take] at this
  omega
 ·rintro i ys H' _ ⟨rfl, _⟩
  exact SqL.of hv
 ·rintro i x ys H' hx ⟨rfl, rfl⟩
  obtain ⟨t, ht, tv⟩ := pr_getR pr hx
  have etk : ts.take (i + 1) = ts.take i ++ [t] := by rw [List.take_add_one, ht]; rfl
  rw [etk, ZG]
  cases t with
  | non =>
   have tv : x = .non := tv
   subst tv
   exact ⟨_, rfl, _, "tuple", _, false, rfl, .non, QhK K, _, rfl, Qbz ⟨rfl, by simp [Qv]⟩⟩
  | num m =>
   have tv : x = .int m := tv
   subst tv
   exact ⟨_, rfl, _, "tuple", _, false, rfl, .int m, QhL K, _, rfl, Qbz ⟨rfl, by simp [Qv]⟩⟩
  | box n =>
   obtain ⟨b, rfl, hb⟩ := tv
   exact ⟨_, rfl, _, "tuple", _, true, rfl, TyOf.tup hb, QdH _ _, _, rfl, Qcd ⟨_, rfl, b, _, 1, .int n, rfl, rfl, SqT.of hb, rfl, rfl, by simp [Qv]⟩⟩
 ·rintro ys H' ⟨rfl, rfl⟩ l hl
  rw [← len, List.take_length]
  exact k l _ (Same.new hl) hl Qb
end
def Qis (held : List Int) : T → Bool
 | .box k => decide (k ∈ held)
 | .non => true
 | .num _ => true
def ZE (held : List Int) (b : Box) : List Int :=
 if b.kind = "plain" then Qv b.row else if b.kind = "pair" then (if (b.row.take 1).all (Qis held) then Qv (b.row.drop 1) else []) else []
def Q5 (ns : List Int) : List (Key × V) := ns.map fun n => ((Sum.inl n : Key), V.bl true)
theorem QdK (ns : List Int) (n : Int) : (QaP (Q5 ns) (Sum.inl n)).isSome = decide (n ∈ ns) := by
 have := Qb3 (ns.map fun m => Rw.bes m) n
 simpa [ZO, Q5, List.map_map, Function.comp_def, Rw.nm] using this
theorem cut1 (ws : List V) : Qi6 ws (some 1) none = ws.drop 1 := by
 cases ws with
 | nil => rfl
 | cons x xs => simp [Qi6, HT.sIx]
theorem Qjm {α β : Type} {F : α → β → Prop} {xs : List α} {ys : List β} (h : Paired F xs ys) : Paired F (xs.drop 1) (ys.drop 1) := by
 cases h with
 | nil => exact .nil
 | cons _ t => exact t
def RecAt (H : Hp) (ak ar : Addr) (bs : List Box) (fl : List Addr) : Prop := H ak = some (.dK (Qr bs)) ∧ H ar = some (.dK (Qm bs fl)) ∧ Paired (fun b a => ThL H b.row a) bs fl
def QhY : Sp := fun vs H Q _ => ∃ (ak ar d : Addr) (bs : List Box) (fl : List Addr) (ns : List Int) (i : Nat) (b : Box), vs = [.ref ak, .ref ar, .ref d, .int b.name] ∧ RecAt H ak ar bs fl ∧ (bs.map (·.name)).Nodup ∧ H d = some (.dK (Q5 ns)) ∧ ns.Nodup ∧ bs[i]? = some b ∧ b.row.length ≤ 900 ∧ (b.kind = "pair" → 0 < b.row.length) ∧
 ∀ l H', Same H H' → H l = none → H' l = some (.lst ((ZE ns b).map V.int)) → Q (.ref l) H'
section
variable {C CS : Addr}
theorem QeN {f : Addr} (F : Fun K "_law_holds" "_law_holds" Qbc f fd) (T : TX K mg C) (D1_ : DefOk P w K mg base n "_law_boxes" ["things"] (Qgv) [[]]) :
  FnOk P w K mg base CX0 (n + 1) f fd ["kinds", "rows", "held", "name"] (QhY) := by
 refine F.ok Qcg (by rintro _ _ _ _ ⟨_, _, _, _, _, _, _, _, rfl, _⟩; rfl) fun _ _ _ s H vs Q E hr h => ?_
 obtain ⟨ak, ar, d, bs, fl, ns, i, b, rfl, hrec, hnm, hd, hnd, hb, few, hpr, k⟩ := h
 have hu := QC hr
 refine ⟨_, (Qc (QZ (Qp QaJ (Z9 hu (pv 0) (pv 3) (fun _ _ => rfl)) Z1 (QF _)) (Qh (Qs (qc D1_ hr (Qa (Z9 hu (pv 1) (pv 3) (fun _ _ => rfl)) Qe)))) Qn)
  (Qc (QZ (Qp QaJ (Z9 hu (pv 0) (pv 3) (fun _ _ => rfl)) Z1 (QF _)) (Qc (Qq (i := 4) Qcg.nd rfl (Or.inl rfl) (QG QI (Z9 hu (pv 1) (pv 3) (fun _ _ => rfl)) Qi (fun _ _ => rfl)))
  (Qh (QZ (PW.pt (Qfj (QfY (Qch (Qy QdM (by rfl) T.g_isi PyProof.Rows.boot_isinstance (Qa (pv 4) (Qa (Qfm (v := .ty "tuple") (by rfl) T.g_tuple PyProof.Rows.boot_tuple rfl) Qe))))) (Qec (QaL (Qie hu (QG Q7 (pv 4) Qi (fun _ _ => rfl)) (pv 2)))))) (Qh (Qs (qc D1_ hr (Qa (Qjn Qkp (Z9 hu (pv 1) (pv 3) (fun _ _ => rfl)) (Qky Qi) Qkz) Qe)))) Qn))) Qn)
  (Qh (Qs (ZR Qe))))), ?_⟩
 obtain ⟨hk, hr', pf⟩ := hrec
 obtain ⟨a, ha, ws, hw, ht⟩ := Q6 pf hb
 have gk : DGet H ak (.int b.name) (some (.str b.kind)) := by rw [← kindAt hnm hb]; exact DGet.k (k := Sum.inl b.name) hk
 have gr : DGet H ar (.int b.name) (some (.ref a)) := by rw [← rowAt (pr_len pf) hnm hb ha]; exact DGet.k (k := Sum.inl b.name) hr'
 refine ⟨_, rfl, _, rfl, ak, _, rfl, gk, rfl, _, rfl, QdI (fun h => ?_) (fun h => ?_)⟩
 ·have h : b.kind = "plain" := by simpa using h
  exact ⟨_, rfl, _, rfl, ar, _, rfl, gr, a, b.row, rfl, ⟨ws, hw, ht⟩, few, fun l H' s n e => k l H' s n (by rw [ZE, if_pos h]; exact e)⟩
 have h : ¬ b.kind = "plain" := by simpa using h
 refine ⟨_, rfl, _, rfl, ak, _, rfl, gk, rfl, _, rfl, QdI (fun h2 => ?_) (fun h2 => ?_)⟩
 ·have h2 : b.kind = "pair" := by simpa using h2
  have pos := hpr h2
  obtain ⟨t0, ht0⟩ : ∃ t0, b.row[0]? = some t0 := ⟨b.row[0], List.getElem?_eq_getElem pos⟩
  obtain ⟨v0, hv0, tv0⟩ := Q6 ht ht0
  have e1 : b.row.take 1 = [t0] := by rw [List.take_add_one, ht0]; rfl
  have ecut : Qi6 ws (some 1) none = ws.drop 1 := cut1 ws
  have yes : Qis ns t0 = true → ∀ l H', Same H H' → H l = none → H' l = some (.lst ((Qv (b.row.drop 1)).map V.int)) → Q (.ref l) H' := fun z l H' s n e => k l H' s n (by rw [ZE, if_neg h, if_pos h2, e1, List.all_cons, z]; exact e)
  have no : Qis ns t0 = false → ∀ l H', Same H H' → H l = none → H' l = some (.lst []) → Q (.ref l) H' := fun z l H' s n e => k l H' s n (by rw [ZE, if_neg h, if_pos h2, e1, List.all_cons, z]; exact e)
  have tl : ∀ l0, H l0 = none → ThL (upd H l0 (.lst (Qi6 ws (some 1) none))) (b.row.drop 1) l0 := fun l0 hl0 => ⟨ws.drop 1, by rw [ecut]; exact Qb, Ths.keep (Tups.new hl0) (Qjm ht)⟩
  have QeI : ∀ l0 l H', H l0 = none → Same (upd H l0 (.lst (Qi6 ws (some 1) none))) H' → (upd H l0 (.lst (Qi6 ws (some 1) none))) l = none → Same H H' ∧ H l = none := fun l0 l H' n0 s n => ⟨(Same.new n0).trans s, Qaj n⟩
  have dl : (b.row.drop 1).length ≤ 900 := by rw [List.length_drop]; omega
  refine ⟨_, rfl, _, rfl, ar, _, rfl, gr, a, ws, 0, v0, rfl, rfl, SqL.of hw, Zh (j := 0) hv0, ?_⟩
  cases t0 with
  | non =>
   cases (show v0 = .non from tv0)
   refine ⟨_, rfl, _, "tuple", _, false, rfl, .non, QhK K, _, rfl, Qcd (Qcd ?_)⟩
   exact ⟨_, rfl, _, rfl, ar, _, rfl, gr, 1, rfl, a, ws, rfl, SqL.of hw, fun l0 hl0 => ⟨l0, b.row.drop 1, rfl, tl l0 hl0, dl, fun l H' s n e => yes rfl l H' (QeI l0 l H' hl0 s n).1 (QeI l0 l H' hl0 s n).2 e⟩⟩
  | num m =>
   cases (show v0 = .int m from tv0)
   refine ⟨_, rfl, _, "tuple", _, false, rfl, .int m, QhL K, _, rfl, Qcd (Qcd ?_)⟩
   exact ⟨_, rfl, _, rfl, ar, _, rfl, gr, 1, rfl, a, ws, rfl, SqL.of hw, fun l0 hl0 => ⟨l0, b.row.drop 1, rfl, tl l0 hl0, dl, fun l H' s n e => yes rfl l H' (QeI l0 l H' hl0 s n).1 (QeI l0 l H' hl0 s n).2 e⟩⟩
  | box key =>
   obtain ⟨x, rfl, hx⟩ := tv0
   refine ⟨_, rfl, _, "tuple", _, true, rfl, .tup hx, QdH _ _, _, rfl, Qbz ?_⟩
   refine ⟨_, rfl, x, _, 1, .int key, rfl, rfl, SqT.of hx, rfl, _, rfl, d, _, rfl, DGet.k (k := Sum.inl key) hd, _, rfl, ?_⟩
   rw [QdK]
   refine QdI (fun z => ?_) (fun z => ?_)
   ·exact ⟨_, rfl, _, rfl, ar, _, rfl, gr, 1, rfl, a, ws, rfl, SqL.of hw, fun l0 hl0 => ⟨l0, b.row.drop 1, rfl, tl l0 hl0, dl, fun l H' s n e => yes z l H' (QeI l0 l H' hl0 s n).1 (QeI l0 l H' hl0 s n).2 e⟩⟩
   ·exact ⟨by decide, fun l hl => no (by simpa [Qis] using z) l _ (Same.new hl) hl Qb⟩
 ·have h2 : ¬ b.kind = "pair" := by simpa using h2
  exact ⟨by decide, fun l hl => k l _ (Same.new hl) hl (by rw [ZE, if_neg h, if_neg h2]; exact Qb)⟩
end
def Qi5 (bs : List Box) (ns : List Int) : Prop := ∀ b ∈ bs, b.name ∈ ns → ∀ m ∈ ZE ns b, m ∈ ns
theorem row2 {l : List T} (h : l.length = 2) : ∃ x y, l = [x, y] := by
 match l, h with
 | [x, y], _ => exact ⟨x, y, rfl⟩
theorem Qhv {S : HS} {b0 : Option Int} {ns : List Int} {b : Box} {m : Int} (h : ∀ n ∈ ns, QcS S b0 n) (hb : b ∈ S.boxes) (hn : b.name ∈ ns) (pr : b.kind = "pair" → b.row.length = 2) (hm : m ∈ ZE ns b) : QcS S b0 m := by
 unfold ZE at hm
 by_cases h1 : b.kind = "plain"
 ·rw [if_pos h1] at hm
  exact .plain hb h1 (h _ hn) (ZN.mp hm)
 ·rw [if_neg h1] at hm
  by_cases h2 : b.kind = "pair"
  ·rw [if_pos h2] at hm
   obtain ⟨x, y, e⟩ := row2 (pr h2)
   rw [e] at hm
   simp at hm
   obtain ⟨hk, hm⟩ := hm
   have hy : y = .box m := by
    have := ZN.mp hm
    exact (List.mem_singleton.mp this).symm
   subst hy
   cases x with
   | non => exact .pairN hb h2 (h _ hn) (t := .non) (by rw [e]; rfl) (fun k z => by cases z) (by rw [e]; rfl)
   | num i => exact .pairN hb h2 (h _ hn) (t := .num i) (by rw [e]; rfl) (fun k z => by cases z) (by rw [e]; rfl)
   | box k => exact .pairK hb h2 (h _ hn) (k := k) (by rw [e]; rfl) (h k (by simpa [Qis] using hk)) (by rw [e]; rfl)
  ·rw [if_neg h2] at hm; cases hm
end LW
namespace L2
open PySem PySem.Spec PyProof.Rows
section
variable {X : Cx}
theorem Qhy (hc : X.A.handled = none) : QeE X (.type "list") (fun xs H Q => ∃ (d : Addr) (kvs : List (Key × V)) (ns : List Int), xs = [.ref d] ∧ H d = some (.dK kvs) ∧ kvs.map (·.1) = ns.map (fun n => (Sum.inl n : Key)) ∧
  ∀ p, H p = none → Q (.ref p) (upd H p (.lst (ns.map V.int)))) := by
 intro pins s σ H xs us Q I r h
 obtain ⟨d, kvs, ns, rfl, hd, hk, q⟩ := h
 obtain ⟨u, rfl, ru⟩ := Qfa r
 cases ru
 obtain ⟨hz, hS, vs, rel, dd⟩ := QiL I.hok hd
 obtain ⟨ep, hat⟩ := dd.dictAt
 have hlen : kvs.length = vs.length := rel.length
 have hkl : kvs.length = ns.length := by have := congrArg List.length hk; simpa using this
 have hks : vs.map (·.1) = ns.map (fun n => (Sum.inl n : Key)) := by rw [← hk]; exact (KV.keys rel).symm
 refine PySem.W.kdl_call (PySem.W.kdl_dict (knd := Q0 X.prog X.w) (kvs := vs) (ep := ep) hS) hc hat (by rw [← hlen]; exact hz) fun h' tk acc c hkp hL hacc => ?_
 have hal : acc.toList.length = ns.length := by rw [Array.length_toList, hacc.1, ← hlen, hkl]
 have hI : IntsAre acc.toList ns := Qc1 hal fun i n v e1 e2 => by
  obtain ⟨k, x, e3, e4⟩ := hacc.2 i v (by rw [← Array.getElem?_toList]; exact e2)
  have e5 : (vs.map (·.1))[i]? = some k := by rw [List.getElem?_map, e3]; rfl
  rw [hks, List.getElem?_map, e1] at e5
  have e5 : (Sum.inl n : Key) = k := Option.some.inj e5
  subst e5
  have e4 : Value.isInt n v = true := e4
  obtain ⟨t, e⟩ := Value.isInt_shape e4
  exact ⟨t, e⟩
 refine ⟨.ref s.heap.objs.size, _, I.laid (o := .lst (ns.map V.int)) hkp (Nat.le_refl _) ?_, rfl, q _ (I.hok.fresh (Nat.le_refl _))⟩
 exact ⟨by rw [List.length_map, ← hkl]; exact hz, acc.toList, c, QbV hI, by simpa using hL⟩
end
end L2
namespace LW
open PySem L2
def Sound (bs : List Box) (starts ns : List Int) : Prop := ∀ P : Int → Prop, (∀ n ∈ starts, P n) → (∀ (ns' : List Int) (b : Box) (m : Int), (∀ n ∈ ns', P n) → b ∈ bs → b.name ∈ ns' → m ∈ ZE ns' b → P m) → ∀ n ∈ ns, P n
theorem Sound.add {bs : List Box} {starts ns ns1 : List Int} (h : Sound bs starts ns) (sub : ∀ n ∈ ns1, n ∈ ns) {b : Box} {m : Int} (hb : b ∈ bs) (hn : b.name ∈ ns1) (hm : m ∈ ZE ns1 b) : Sound bs starts (ns ++ [m]) := fun P p1 p2 n h' => by
 rcases List.mem_append.mp h' with z | z
 ·exact h P p1 p2 n z
 ·rw [List.mem_singleton.mp z]; exact p2 ns1 b m (fun x hx => h P p1 p2 x (sub x hx)) hb hn hm
theorem Sound.held {S : HS} {b0 : Option Int} {starts ns : List Int} (h : Sound S.boxes starts ns) (hs : ∀ n ∈ starts, QcS S b0 n) (pr : ∀ b ∈ S.boxes, b.kind = "pair" → b.row.length = 2) : ∀ n ∈ ns, QcS S b0 n :=
 h (QcS S b0) hs fun _ b _ hh hb hn hm => Qhv hh hb hn (pr b hb) hm
def Z8 (d : Addr) (σ : St) (H : Hp) : Nat := (match H d with
 | some (.dK kvs) => 2 * (901 - kvs.length)
 | _ => 0) + (match σ with
 | [_, _, _, _, _, some (V.bl true), _] => 1
 | _ => 0)
theorem QgL {ns : List Int} {b : Box} {m : Int} (h : m ∈ ZE ns b) : .box m ∈ b.row := by
 unfold ZE at h
 split at h
 ·exact ZN.mp h
 ·split at h
  ·split at h
   ·exact List.mem_of_mem_drop (ZN.mp h)
   ·cases h
  ·cases h
theorem Qga {ns : List Int} {m : Int} (h : m ∉ ns) : QbK (Q5 ns) (Sum.inl m) (.bl true) = Q5 (ns ++ [m]) := by
 rw [Qbf]
 ·simp [Q5]
 ·have e := QdK ns m
  rw [decide_eq_false h] at e
  cases z : QaP (Q5 ns) (Sum.inl m) with
  | none => rfl
  | some v => rw [z] at e; cases e
theorem QiA {ns : List Int} (nd : ns.Nodup) {m : Int} (h : m ∈ ns) : QbK (Q5 ns) (Sum.inl m) (.bl true) = Q5 ns := by
 obtain ⟨i, hi⟩ := List.getElem?_of_mem h
 have e : (Q5 ns)[i]? = some ((Sum.inl m : Key), V.bl true) := by simp [Q5, hi]
 have n2 : ((Q5 ns).map (·.1)).Nodup := by
  have : (Q5 ns).map (·.1) = ns.map fun n => (Sum.inl n : Key) := by simp [Q5, List.map_map, Function.comp_def]
  rw [this]; exact QcZ nd
 rw [Qkw n2 e]
 obtain ⟨hl, he⟩ := List.getElem?_eq_some_iff.mp e
 rw [← he]
 exact List.set_getElem_self hl
def Qh0 : Sp := fun vs H Q _ => ∃ (ak ar a : Addr) (bs : List Box) (fl : List Addr) (starts : List Int), vs = [.ref ak, .ref ar, .ref a] ∧ RecAt H ak ar bs fl ∧ (bs.map (·.name)).Nodup ∧ H a = some (.lst (starts.map V.int)) ∧ starts.length ≤ 900 ∧ bs.length ≤ 900 ∧ (∀ n ∈ starts, n ∈ bs.map (·.name)) ∧
 (∀ b ∈ bs, b.row.length ≤ 900 ∧ (b.kind = "pair" → b.row.length = 2) ∧ ∀ n, .box n ∈ b.row → n ∈ bs.map (·.name)) ∧
 ∀ d ns H', Same H H' → H d = none → H' d = some (.dK (Q5 ns)) → ns.Nodup → (∀ n ∈ starts, n ∈ ns) → (∀ n ∈ ns, n ∈ bs.map (·.name)) → Qi5 bs ns → Sound bs starts ns → Q (.ref d) H'
section
variable {C CS : Addr}
theorem Qfr {f : Addr} (F : Fun K "_law_held" "_law_held" QbH f fd) (T : TX K mg C) (D1_ : DefOk P w K mg base n "_law_holds" ["kinds", "rows", "held", "name"] (QhY) [[]]) :
  FnOk P w K mg base CX0 (n + 1) f fd ["kinds", "rows", "starts"] (Qh0) := by
 refine F.ok QU (by rintro _ _ _ _ ⟨_, _, _, _, _, _, rfl, _⟩; rfl) fun _ _ _ s H vs Q E hr h => ?_
 obtain ⟨ak, ar, a, bs, fl, starts, rfl, hrec, hnm, ha, hsl, hbl, hst, hbs, k⟩ := h
 have hu := QC hr
 refine ⟨_, (Qc (Qq (i := 3) QU.nd rfl (Or.inl rfl) Qaq)
  (Qc (Za PassesOwn.never rfl (QR (pv 2)) (QS (i := 4) QU.nd rfl (Or.inl rfl))
  (Qh (Qbh hu (pv 3) (pv 4) Qdr rfl)))
  (Qc (Qq (i := 5) QU.nd rfl (Or.inl rfl) Qdr)
  (Qc (Qg0 PassesOwn.never (Qch (pv 5))
  (Qc (Qq (i := 5) QU.nd rfl (Or.inl rfl) Qdr)
  (Qh (Za PassesOwn.never rfl (QR (QcE (Qhy hr.hd) (by rfl) T.g_list PyProof.Rows.boot_list (Qa (pv 3) Qe))) (QS (i := 4) QU.nd rfl (Or.inl rfl))
  (Qh (Za PassesOwn.never rfl (QR (qc D1_ hr (Qa (pv 0) (Qa (pv 1) (Qa (pv 3) (Qa (pv 4) Qe)))))) (QS (i := 6) QU.nd rfl (Or.inl rfl))
  (Qh (QZ (QaL (Qef hu (pv 6) (pv 3))) (Qc (Qbh hu (pv 3) (pv 6) Qdr rfl)
  (Qh (Qq (i := 5) QU.nd rfl (Or.inl rfl) Qdr))) Qn))))))))
  (Qh (Qs (pv 3))))))), ?_⟩
 intro d hd0
 have s0 : Same H (upd H d (.dK [])) := Same.new hd0
 have up : ∀ {H' : Hp} {o : HO}, Same H H' → Same H (upd H' d o) := fun {H' o} s b u e => by rw [Qf (Qd e hd0)]; exact s b u e
 have nsz : ∀ {ns : List Int}, ns.Nodup → (∀ n ∈ ns, n ∈ bs.map (·.name)) → ns.length ≤ 900 := fun nd i => by have := QbO nd i; simp at this; omega
 have fits : ∀ {ns : List Int}, ns.length ≤ 900 → (Q5 ns).length < sizeLine := fun h => by rw [Q5, List.length_map]; exact QK (by omega)
 have keys : ∀ ns : List Int, (Q5 ns).map (·.1) = ns.map fun n => (Sum.inl n : Key) := fun ns => by simp [Q5, List.map_map, Function.comp_def]
 have intAt : ∀ {l : List Int} {i : Nat} {y : V}, (l.map V.int)[i]? = some y → ∃ n, l[i]? = some n ∧ y = .int n := fun {l i y} hy => by
  rw [List.getElem?_map] at hy
  cases e : l[i]? with
  | none => rw [e] at hy; cases hy
  | some h => rw [e] at hy; exact ⟨h, rfl, (Option.some.inj hy).symm⟩
 have takeS : ∀ {l : List Int} {i : Nat} {n : Int}, l[i]? = some n → l.take (i + 1) = l.take i ++ [n] := fun {l i n} hn => by rw [List.take_add_one, hn]; rfl
 have snocN : ∀ {ns : List Int} {n : Int}, ns.Nodup → n ∉ ns → (ns ++ [n]).Nodup := fun {ns n} nd h => List.nodup_append.mpr ⟨nd, by simp, fun x hx y hy e => h (by rw [← List.mem_singleton.mp hy, ← e]; exact hx)⟩
 refine ⟨_, rfl, a, rfl, ⟨_, SqL.of (s0 _ _ ha)⟩, ?_⟩
 refine Zv (K := K) (xs := starts.map V.int) (fun i σ H' => ∃ v_name v_grown v_other ns, σ = [some (.ref ak), some (.ref ar), some (.ref a), some (.ref d), v_name, v_grown, v_other] ∧ Same H H' ∧ H' d = some (.dK (Q5 ns)) ∧ ns.Nodup ∧ (∀ n ∈ starts.take i, n ∈ ns) ∧ (∀ n ∈ ns, n ∈ starts)) ?_ ?_ ?_ ?_
 ·exact ⟨_, _, _, [], rfl, s0, Qb, List.nodup_nil, fun n hn => by simp at hn, fun n hn => by cases hn⟩
 ·rintro i σ H1 _ ⟨_, _, _, ns, rfl, s1, _⟩
  exact SqL.of (s1 _ _ ha)
 ·rintro i y σ H1 hy ⟨v1, v2, v3, ns, rfl, s1, h1, nd, i1, i2⟩
  obtain ⟨n, hn, rfl⟩ := intAt hy
  have hin := List.mem_of_getElem? hn
  have l9 := nsz nd fun m hm => hst m (i2 m hm)
  refine ⟨_, rfl, _, rfl, d, _, rfl, DPut.k (k := Sum.inl n) h1 (fits l9), ?_⟩
  by_cases z : n ∈ ns
  ·rw [QiA nd z]
   refine ⟨_, _, _, ns, rfl, up s1, Qb, nd, fun m hm => ?_, i2⟩
   rw [takeS hn] at hm
   rcases List.mem_append.mp hm with q | q
   ·exact i1 m q
   ·rw [List.mem_singleton.mp q]; exact z
  ·rw [Qga z]
   refine ⟨_, _, _, ns ++ [n], rfl, up s1, Qb, snocN nd z, fun m hm => ?_, fun m hm => ?_⟩
   ·rw [takeS hn] at hm
    rcases List.mem_append.mp hm with q | q
    ·exact List.mem_append_left _ (i1 m q)
    ·rw [List.mem_singleton.mp q]; simp
   ·rcases List.mem_append.mp hm with q | q
    ·exact i2 m q
    ·rw [List.mem_singleton.mp q]; exact hin
 rintro σ H1 ⟨v1, v2, v3, ns1, rfl, s1, h1, nd1, i1, i2⟩
 rw [List.length_map, List.take_length] at i1
 refine QgT (fun σ H' => ∃ v_name v_other ns g, σ = [some (.ref ak), some (.ref ar), some (.ref a), some (.ref d), v_name, some (.bl g), v_other] ∧ Same H H' ∧ H' d = some (.dK (Q5 ns)) ∧ ns.Nodup ∧ (∀ n ∈ starts, n ∈ ns) ∧ (∀ n ∈ ns, n ∈ bs.map (·.name)) ∧ Sound bs starts ns ∧ (g = false → Qi5 bs ns)) (fun σ H' => Z8 d σ H') ⟨_, _, ns1, true, rfl, s1, h1, nd1, i1, fun n hn => hst n (i2 n hn), fun P p1 _ n hn => p1 n (i2 n hn), fun e => by cases e⟩ ?_ ?_
 ·rintro σ H2 ⟨v4, v6, ns, g, rfl, s2, h2, nd, i1, i2, snd, cl⟩
  refine ⟨_, rfl, _, rfl, QdI (fun hg => ?_) (fun hg => ?_)⟩
  ·have hg : g = true := hg
   subst hg
   refine ⟨_, rfl, d, _, ns, rfl, h2, keys ns, fun l hl => ?_⟩
   refine ⟨l, rfl, ⟨_, SqL.of Qb⟩, ?_⟩
   have ld : d ≠ l := Qd h2 hl
   have hl0 : H l = none := by
    cases e : H l with
    | none => rfl
    | some o => rw [s2 _ _ e] at hl; cases hl
   have hl2' : (upd H2 l (.lst (ns.map V.int))) d = some (.dK (Q5 ns)) := by rw [Qf ld]; exact h2
   refine Zv (K := K) (xs := ns.map V.int) (fun i σ H' => ∃ v_name v_other ns' g, σ = [some (.ref ak), some (.ref ar), some (.ref a), some (.ref d), v_name, some (.bl g), v_other] ∧ Same H H' ∧ H' d = some (.dK (Q5 ns')) ∧ H' l = some (.lst (ns.map V.int)) ∧ ns'.Nodup ∧ (∃ more, ns' = ns ++ more) ∧ (∀ n ∈ ns', n ∈ bs.map (·.name)) ∧ Sound bs starts ns' ∧ (g = true → ns.length < ns'.length) ∧ (g = false → ns' = ns ∧ ∀ n ∈ ns.take i, ∀ b ∈ bs, b.name = n → ∀ m ∈ ZE ns b, m ∈ ns)) ?_ ?_ ?_ ?_
   ·exact ⟨_, _, ns, false, rfl, s2.trans (Same.new hl), hl2', Qb, nd, ⟨[], by simp⟩, i2, snd, (fun e => by cases e), fun _ => ⟨rfl, fun n hn => by simp at hn⟩⟩
   ·rintro i σ H3 _ ⟨_, _, ns', g, rfl, _, _, hl3, _⟩
    exact SqL.of hl3
   ·rintro i y σ H3 hy ⟨w4, w6, ns', g, rfl, s3, h3, hl3, nd3, ⟨more, em⟩, i3, snd3, gt, gf⟩
    obtain ⟨n, hn, rfl⟩ := intAt hy
    have hnn : n ∈ ns' := by rw [em]; exact List.mem_append_left _ (List.mem_of_getElem? hn)
    obtain ⟨b, hb, hbn⟩ := List.mem_map.mp (i3 n hnn)
    subst hbn
    obtain ⟨ib, hib⟩ := List.getElem?_of_mem hb
    obtain ⟨r1, r2, r3⟩ := hbs b hb
    refine ⟨_, rfl, _, rfl, _, rfl, _, rfl, ak, ar, d, bs, fl, ns', ib, b, rfl, ⟨s3 _ _ hrec.1, s3 _ _ hrec.2.1, QE (fun _ _ _ _ z => z.same s3) hrec.2.2⟩, hnm, h3, nd3, hib, r1, (fun e => by rw [r2 e]; decide), fun l2 H4 s4 n4 e4 => ?_⟩
    refine ⟨l2, rfl, ⟨_, SqL.of e4⟩, ?_⟩
    have l2d : l2 ≠ d := (Qd h3 n4).symm
    refine Zv (K := K) (xs := (ZE ns' b).map V.int) (fun j σ H' => ∃ v_other ns2 g2, σ = [some (.ref ak), some (.ref ar), some (.ref a), some (.ref d), some (.int b.name), some (.bl g2), v_other] ∧ Same H H' ∧ H' d = some (.dK (Q5 ns2)) ∧ H' l = some (.lst (ns.map V.int)) ∧ H' l2 = some (.lst ((ZE ns' b).map V.int)) ∧ ns2.Nodup ∧ (∃ more, ns2 = ns' ++ more) ∧ (∀ n ∈ ns2, n ∈ bs.map (·.name)) ∧ Sound bs starts ns2 ∧ (g2 = true → ns.length < ns2.length) ∧ (g2 = false → g = false ∧ ns2 = ns' ∧ ∀ m ∈ (ZE ns' b).take j, m ∈ ns')) ?_ ?_ ?_ ?_
    ·exact ⟨_, ns', g, rfl, s3.trans s4, s4 _ _ h3, s4 _ _ hl3, e4, nd3, ⟨[], by simp⟩, i3, snd3, gt, fun e => ⟨e, rfl, fun m hm => by simp at hm⟩⟩
    ·rintro j σ H5 _ ⟨_, _, _, rfl, _, _, _, hm5, _⟩
     exact SqL.of hm5
    ·rintro j y σ H5 hy ⟨w6, ns2, g2, rfl, s5, h5, hl5, hm5, nd5, ⟨more2, em2⟩, i5, snd5, gt5, gf5⟩
     obtain ⟨m, hm, rfl⟩ := intAt hy
     have hmm := List.mem_of_getElem? hm
     have mn := r3 m (QgL hmm)
     refine ⟨_, rfl, _, rfl, d, _, rfl, DGet.k (k := Sum.inl m) h5, _, rfl, ?_⟩
     rw [QdK]
     by_cases z : m ∈ ns2
     ·rw [decide_eq_true z]
      refine Qbz ⟨_, ns2, g2, rfl, s5, h5, hl5, hm5, nd5, ⟨more2, em2⟩, i5, snd5, gt5, fun e => ⟨(gf5 e).1, (gf5 e).2.1, fun x hx => ?_⟩⟩
      rw [takeS hm] at hx
      rcases List.mem_append.mp hx with q | q
      ·exact (gf5 e).2.2 x q
      ·rw [List.mem_singleton.mp q, ← (gf5 e).2.1]; exact z
     ·rw [decide_eq_false z]
      refine Qcd ⟨_, rfl, _, rfl, d, _, rfl, DPut.k (k := Sum.inl m) h5 (fits (nsz nd5 i5)), ?_⟩
      rw [Qga z]
      refine ⟨_, ns2 ++ [m], true, rfl, up s5, Qb, by rw [Qf ld.symm]; exact hl5, by rw [Qf l2d]; exact hm5, snocN nd5 z, ⟨more2 ++ [m], by rw [em2]; simp⟩, fun x hx => ?_, snd5.add (fun x hx => by rw [em2]; exact List.mem_append_left _ hx) hb hnn hmm, fun _ => ?_, fun e => by cases e⟩
      ·rcases List.mem_append.mp hx with q | q
       ·exact i5 x q
       ·rw [List.mem_singleton.mp q]; exact mn
      ·rw [em2, em]; simp; omega
    ·rintro σ H5 ⟨w6, ns2, g2, rfl, s5, h5, hl5, _, nd5, ⟨more2, em2⟩, i5, snd5, gt5, gf5⟩
     refine ⟨_, _, ns2, g2, rfl, s5, h5, hl5, nd5, ⟨more ++ more2, by rw [em2, em]; simp⟩, i5, snd5, gt5, fun e => ?_⟩
     obtain ⟨e1, e2, e3⟩ := gf5 e
     obtain ⟨f1, f2⟩ := gf e1
     refine ⟨e2.trans f1, fun x hx b' hb' hn' m hm' => ?_⟩
     rw [takeS hn] at hx
     rcases List.mem_append.mp hx with q | q
     ·exact f2 x q b' hb' hn' m hm'
     ·have eb := ZS hnm hb' hb (hn'.trans (List.mem_singleton.mp q))
      subst eb
      rw [List.length_map, List.take_length] at e3
      rw [f1] at e3
      exact e3 m hm'
   ·rintro σ H3 ⟨w4, w6, ns', g, rfl, s3, h3, hl3, nd3, ⟨more, em⟩, i3, snd3, gt, gf⟩
    refine ⟨⟨_, _, ns', g, rfl, s3, h3, nd3, fun n hn => by rw [em]; exact List.mem_append_left _ (i1 n hn), i3, snd3, fun e => ?_⟩, ?_⟩
    ·obtain ⟨f1, f2⟩ := gf e
     rw [List.length_map, List.take_length] at f2
     rw [f1]
     exact fun b hb hn m hm => f2 b.name hn b hb rfl m hm
    ·have z9 := nsz nd3 i3
     have y1 : (Q5 ns').length = ns'.length := by simp [Q5]
     have y2 : (Q5 ns).length = ns.length := by simp [Q5]
     cases g with
     | true =>
      have := gt rfl
      show Z8 d _ H3 < Z8 d _ H2
      unfold Z8
      rw [h3, h2]
      show 2 * (901 - (Q5 ns').length) + 1 < 2 * (901 - (Q5 ns).length) + 1
      omega
     | false =>
      have := (gf rfl).1
      subst this
      show Z8 d _ H3 < Z8 d _ H2
      unfold Z8
      rw [h3, h2]
      show 2 * (901 - (Q5 ns').length) + 0 < 2 * (901 - (Q5 ns').length) + 1
      omega
  ·have hg : g = false := by simpa using hg
   exact ⟨_, rfl, k d ns H2 s2 hd0 h2 nd i1 i2 (cl hg) snd⟩
 ·intro σ H1 Q1 Q2 hQ h
  obtain ⟨v, e1, b, e2, z⟩ := h
  exact ⟨v, e1, b, e2, hQ _ _ z⟩
end
end LW
namespace L2
open PySem PySem.Spec PyProof.Rows
theorem Qih {X : Cx} {K' : Fg} (h : X.K = K') : OpR X (compareOp .NotIn) (rIn K' true) := h ▸ QaN
theorem Zw {α β : Type} (f : α → β) : ∀ (l : List α) (i : Nat), (l.map f).eraseIdx i = (l.eraseIdx i).map f
 | [], _ => rfl
 | _ :: _, 0 => rfl
 | x :: l, i + 1 => congrArg (f x :: ·) (Zw f l i)
section
variable {X : Cx}
def Qku : V → List V → Hp → VK → Prop := fun x vs H Q => ∃ (l : Addr) (ns : List Int) (n : Int), x = .ref l ∧ vs = [.int n] ∧ H l = some (.lst (ns.map V.int)) ∧ n ∈ ns ∧ Q .non (upd H l (.lst ((ns.erase n).map V.int)))
theorem Qf4 : MtM X "list.remove" Qku := by
 intro pins s σ H x vs v us Q I rx rv h
 obtain ⟨l, ns, n, rfl, rfl, hH, hn, q⟩ := h
 cases rx
 obtain ⟨u, rfl, ru⟩ := rv.one
 obtain ⟨t, rfl⟩ := ru
 obtain ⟨z, its, c, r, hl, e⟩ := I.lstM hH
 have hlen : ns.length = its.length := by rw [← hl, List.length_map]
 have at_ : ∀ (i : Nat) (a : Int), ns[i]? = some a → ∃ tk, its[i]? = some (.int a tk) := fun i a h => by
  obtain ⟨w', hw, tk, rfl⟩ := r.get (i := i) (x := .int a) (by rw [List.getElem?_map, h]; rfl)
  exact ⟨tk, hw⟩
 have hj : ns.idxOf n < ns.length := List.idxOf_lt_length_of_mem hn
 let eq : Value → Bool := fun y => match y with
  | .int a _ => a == n
  | _ => false
 have he : ∀ y, y ∈ its.toArray → MeetsSeq.EqGives y (.int n t) (eq y) := fun y hy => by
  obtain ⟨i, hi⟩ := List.getElem?_of_mem (List.mem_toArray.mp hy)
  have hlt := (List.getElem?_eq_some_iff.mp hi).1
  obtain ⟨tk, h2⟩ := at_ i ns[i] (List.getElem?_eq_getElem (by omega))
  rw [hi] at h2
  cases h2
  exact MeetsSeq.EqGives.int _ _ _ _
 have val : ∀ (m : Nat) (hm : m < its.toArray.size) (a : Int), ns[m]? = some a → eq its.toArray[m] = (a == n) := fun m hm a ha => by
  obtain ⟨tk, h2⟩ := at_ m a ha
  have : its.toArray[m] = .int a tk := by
   have h3 := (List.getElem?_eq_some_iff.mp h2).2
   simpa using h3
  rw [this]
 refine call_meets F.slot_list_remove ⟨_, e, rfl⟩ F.entry_list_remove (F.args_list_remove_2 _ _)
  (MeetsSeq.list_remove l its.toArray c (.int n t) eq he (ns.idxOf n) (by rw [List.size_toArray]; omega) ?_ ?_ (by rw [List.size_toArray]; omega)) ⟨e, ?_⟩
 ·rw [val _ _ n (by rw [List.getElem?_eq_getElem hj, List.getElem_idxOf hj])]
  simp
 ·intro m hm hlt
  have hm2 : m < ns.length := by omega
  rw [val _ _ ns[m] (List.getElem?_eq_getElem hm2)]
  have := List.not_of_lt_findIdx hlt
  simpa using this
 ·refine ⟨.non, _, I.lset (its' := its.eraseIdx (ns.idxOf n)) hH e ?_ (ys := (ns.erase n).map V.int) ?_ ?_, rfl, q⟩
  ·show its.toArray.eraseIdxIfInBounds _ = (its.eraseIdx _).toArray
   rw [List.eraseIdxIfInBounds_toArray]
  ·have h2 := r.eraseIdx (ns.idxOf n)
   rw [Zw, ← List.erase_eq_eraseIdx_of_idxOf rfl] at h2
   exact h2
  ·rw [List.length_map]
   have := List.length_erase_le (a := n) (l := ns)
   rw [List.length_map] at z
   omega
end
end L2
namespace LW
open PySem L2
theorem Qi1 : ∀ {a b : List Int}, a.Pairwise (· < ·) → b.Pairwise (· < ·) → (∀ x, x ∈ a ↔ x ∈ b) → a = b
 | [], [], _, _, _ => rfl
 | [], y :: b, _, _, h => by have := (h y).mpr List.mem_cons_self; cases this
 | x :: a, [], _, _, h => by have := (h x).mp List.mem_cons_self; cases this
 | x :: a, y :: b, h1, h2, h => by
  obtain ⟨p1, q1⟩ := List.pairwise_cons.mp h1
  obtain ⟨p2, q2⟩ := List.pairwise_cons.mp h2
  have e : x = y := by
   rcases List.mem_cons.mp ((h x).mp List.mem_cons_self) with z | z
   ·exact z
   ·rcases List.mem_cons.mp ((h y).mpr List.mem_cons_self) with r | r
    ·exact r.symm
    ·have l1 := p2 x z
     have l2 := p1 y r
     omega
  subst e
  refine congrArg (x :: ·) (Qi1 q1 q2 fun z => ⟨fun hz => ?_, fun hz => ?_⟩)
  ·rcases List.mem_cons.mp ((h z).mp (List.mem_cons_of_mem _ hz)) with r | r
   ·have := p1 z hz; omega
   ·exact r
  ·rcases List.mem_cons.mp ((h z).mpr (List.mem_cons_of_mem _ hz)) with r | r
   ·have := p2 z hz; omega
   ·exact r
theorem law_ok {S : HS} {n : Nat} (hn : names S = QH 1 n) (hb : ∀ b ∈ S.boxes, BOk n b) (ht : ∀ t ∈ S.slots, TOk n t) (told : ∀ xs ∈ S.told, xs = []) (h : n ≤ 900) : S.Ok := by
 have inn : ∀ t : T, TOk n t → t.In (names S) := fun t ok k e => by
  subst e
  rw [hn, Qat]
  have ok : 1 ≤ k ∧ k ≤ (n : Int) := ok
  omega
 have hl : S.boxes.length = n := by
  have := congrArg List.length hn
  rw [QJ] at this
  simpa [names] using this
 refine ⟨fun b m t mt => inn t ((hb b m).ts t mt), fun b m k => ?_, fun t m => inn t (ht t m), (fun xs m k mk => by rw [told xs m] at mk; cases mk), by omega, fun b m => by have := (hb b m).le; omega⟩
 have := (hb b m).sz
 rw [k] at this
 have e : ZQ "pair" (b.row.length : Int) = 2 := by unfold ZQ; rw [if_neg (by decide +kernel), if_pos rfl]
 rw [e] at this
 omega
def Qar (hs : List Int) (b : Box) : Bool := match b.row[0]? with
 | some (T.box k) => !decide (k ∈ hs)
 | _ => false
def brk (ns : List Int) (f : List T → List T) (bs : List Box) : List Box := bs.map fun b => if b.name ∈ ns then { b with row := f b.row } else b
def loose (r : List T) : List T := r.set 0 .non
def QgD (r : List T) : List T := (r.set 0 .non).set 1 .non
theorem QiX (f : List T → List T) (bs : List Box) : brk [] f bs = bs := by simp [brk]
theorem QdN (ns : List Int) (f : List T → List T) (bs : List Box) : (brk ns f bs).map (·.name) = bs.map (·.name) := by
 rw [brk, List.map_map]
 refine List.map_congr_left fun b _ => ?_
 show (if b.name ∈ ns then ({ b with row := f b.row } : Box) else b).name = b.name
 split <;> rfl
theorem Qe7 {ns : List Int} {f : List T → List T} {bs : List Box} {i : Nat} {b : Box} (h : bs[i]? = some b) : (brk ns f bs)[i]? = some (if b.name ∈ ns then { b with row := f b.row } else b) := by
 rw [brk, List.getElem?_map, h]; rfl
theorem Qcy {bs : List Box} {i j at_ : Nat} {t : T} : (Zy bs i at_ t)[j]? = (bs[j]?).map fun b => if i = j then { b with row := b.row.set at_ t } else b := by
 unfold Zy
 rw [List.getElem?_modify]
 cases bs[j]? <;> rfl
theorem QiY {bs : List Box} {ns : List Int} {i : Nat} {b : Box} (nd : (bs.map (·.name)).Nodup) (h : bs[i]? = some b) (hn : b.name ∉ ns) : Zy (brk ns loose bs) i 0 .non = brk (ns ++ [b.name]) loose bs := by
 refine List.ext_getElem? fun j => ?_
 rw [Qcy]
 cases e : bs[j]? with
 | none => simp [brk, e]
 | some x =>
  rw [Qe7 e, Qe7 e]
  by_cases ij : i = j
  ·subst ij
   have : x = b := by rw [h] at e; exact (Option.some.inj e).symm
   subst this
   simp [hn, loose]
  ·have hx : x.name ≠ b.name := fun z => ij (Qbp nd (x := b.name) (by rw [List.getElem?_map, h]; rfl) (by rw [List.getElem?_map, e]; exact congrArg some z))
   simp [ij, hx]
theorem QjK {bs : List Box} {ns : List Int} {i : Nat} {b : Box} (nd : (bs.map (·.name)).Nodup) (h : bs[i]? = some b) (hn : b.name ∉ ns) : Zy (Zy (brk ns QgD bs) i 0 .non) i 1 .non = brk (ns ++ [b.name]) QgD bs := by
 refine List.ext_getElem? fun j => ?_
 rw [Qcy, Qcy]
 cases e : bs[j]? with
 | none => simp [brk, e]
 | some x =>
  rw [Qe7 e, Qe7 e]
  by_cases ij : i = j
  ·subst ij
   have : x = b := by rw [h] at e; exact (Option.some.inj e).symm
   subst this
   simp [hn, QgD]
  ·have hx : x.name ≠ b.name := fun z => ij (Qbp nd (x := b.name) (by rw [List.getElem?_map, h]; rfl) (by rw [List.getElem?_map, e]; exact congrArg some z))
   simp [ij, hx]
theorem QfL {α β : Type} : ∀ (xs : List α) (ys : List β) (i : Nat), (xs.eraseIdx i).zip (ys.eraseIdx i) = (xs.zip ys).eraseIdx i
 | [], ys, i => by simp
 | x :: xs, [], i => by cases i <;> simp
 | x :: xs, y :: ys, 0 => rfl
 | x :: xs, y :: ys, i + 1 => by simp [QfL xs ys i]
theorem Qf7 (bs : List Box) (i : Nat) : Qr (bs.eraseIdx i) = (Qr bs).eraseIdx i := by simp [Qr, Zw]
theorem QfF (bs : List Box) (fl : List Addr) (i : Nat) : Qm (bs.eraseIdx i) (fl.eraseIdx i) = (Qm bs fl).eraseIdx i := by simp [Qm, QfL, Zw]
theorem Qge {bs : List Box} (nd : (bs.map (·.name)).Nodup) {i : Nat} {b : Box} (h : bs[i]? = some b) : bs.eraseIdx i = bs.filter fun x => !decide (x.name = b.name) := by
 induction bs generalizing i with
 | nil => simp at h
 | cons y ys ih =>
  have nd : (y.name :: ys.map (·.name)).Nodup := nd
  obtain ⟨n1, n2⟩ := List.nodup_cons.mp nd
  cases i with
  | zero =>
   have h : y = b := by simpa using h
   subst h
   have : ys.filter (fun x => !decide (x.name = y.name)) = ys := List.filter_eq_self.mpr fun x hx => by
    have : x.name ≠ y.name := fun e => n1 (by rw [← e]; exact List.mem_map.mpr ⟨x, hx, rfl⟩)
    simp [this]
   simp [this]
  | succ i =>
   have h : ys[i]? = some b := by simpa using h
   have : y.name ≠ b.name := fun e => n1 (by rw [e]; exact List.mem_map.mpr ⟨b, List.mem_of_getElem? h, rfl⟩)
   simp [this, ih n2 h]
section
variable {C : Addr} {H H' : Hp} {p : Addr} {A : HA} {S : HS} {i : Nat} {b : Box}
theorem HouseAt.dropped (h : HouseAt C H p A S) (hi : S.boxes[i]? = some b) (h2 : H' A.kd = some (.dK ((Qr S.boxes).eraseIdx i))) (h3 : H' A.fd = some (.dK ((Qm S.boxes A.fl).eraseIdx i))) (kp : ∀ c, c ≠ A.kd → c ≠ A.fd → H' c = H c) :
  HouseAt C H' p { A with fl := A.fl.eraseIdx i } { S with boxes := S.boxes.eraseIdx i } := by
 have nk : ∀ c o, H c = some o → (∀ kvs, o ≠ .dK kvs) → H' c = H c := fun c o e n => kp c (QB e h.kd (n _)) (QB e h.fd (n _))
 have kl : ∀ c ∈ A.lists, H' c = H c := fun c hc => by
  obtain ⟨vs, q⟩ := h.isL c hc
  exact nk c _ q (by intro kvs z; cases z)
 have tu : Tups H H' := fun c xs e => by rw [nk c _ e (by intro kvs z; cases z)]; exact e
 refine ⟨?_, h.sl.keep tu (kl _ (by simp [HA.lists])), by rw [h2, Qf7], by rw [h3, QfF], QE (fun x a _ ha z => z.keep tu (kl _ (by simp [HA.lists, List.mem_of_mem_eraseIdx ha]))) (Qfk i h.fl), (kl _ (by simp [HA.lists])).trans h.qs,
  QE (fun x a _ ha z => (kl _ (by simp [HA.lists, ha])).trans z) h.ql, (kl _ (by simp [HA.lists])).trans h.td, QE (fun x a _ ha z => (kl _ (by simp [HA.lists, ha])).trans z) h.tl, ?_, h.kf, ?_, fun x hx => h.top x (List.mem_of_mem_eraseIdx hx)⟩
 ·rw [nk p _ h.ob (by intro kvs z; cases z)]; exact h.ob
 ·refine h.nd.sublist ?_
  show List.Sublist (A.sl :: A.qs :: A.td :: (A.fl.eraseIdx i ++ (A.ql ++ A.tl))) (A.sl :: A.qs :: A.td :: (A.fl ++ (A.ql ++ A.tl)))
  exact (((List.eraseIdx_sublist A.fl i).append_right _).cons_cons _).cons_cons _ |>.cons_cons _
 ·show ((S.boxes.eraseIdx i).map (·.name)).Pairwise (· < ·)
  exact h.asc.sublist ((List.eraseIdx_sublist S.boxes i).map _)
end
def QjW (C : Addr) : Sp := fun vs H Q _ => ∃ (p : Addr) (A : HA) (S : HS) (i : Nat) (b : Box), vs = [.ref p, .int b.name] ∧ HouseAt C H p A S ∧ S.boxes[i]? = some b ∧ Out C H p A { S with boxes := S.boxes.eraseIdx i } Q .non
def HS.tell (S : HS) (g : Nat) (xs ys : List Int) : HS := { S with queues := S.queues.set g xs, told := S.told.set g ys }
def QjR (C : Addr) : Sp := fun vs H Q _ => ∃ (p : Addr) (A : HA) (S : HS) (g : Nat) (xs ys : List Int) (n : Int), vs = [.ref p, .int g, .int n] ∧ HouseAt C H p A S ∧ S.queues[g]? = some xs ∧ S.told[g]? = some ys ∧ n ∈ xs ∧ ys.length ≤ 900 ∧ Out C H p A (S.tell g (xs.erase n) (ys ++ [n])) Q .non
def Qgu (C : Addr) : Sp := fun vs H Q _ => ∃ (p l : Addr) (A : HA) (S : HS) (i : Nat) (b : Box) (hs : List Int), vs = [.ref p, .int b.name, .ref l] ∧ HouseAt C H p A S ∧ S.boxes[i]? = some b ∧ 0 < b.row.length ∧ H l = some (.lst (hs.map V.int)) ∧ Q (.bl (Qar hs b)) H
def Q3 (hs : List Int) (bs : List Box) : List Int := (bs.filter fun b => decide (b.kind = ("weak" : Str)) && Qar hs b).map (·.name)
def Zz (hs : List Int) (bs : List Box) : List Int := (bs.filter fun b => decide (b.name ∈ hs) && (decide (b.kind = ("pair" : Str)) && Qar hs b)).map (·.name)
def Zs (hs : List Int) (bs : List Box) : List Int := (bs.filter fun b => !decide (b.name ∈ hs)).map (·.name)
def OutL (C : Addr) (H : Hp) (p : Addr) (A : HA) (S' : HS) (ns : List Int) (Q : V → Hp → Prop) : Prop :=
 ∀ A' H' r, Upto C H p A H' A' S' → H r = none → r ∉ A'.foot p → H' r = some (.lst (ns.map V.int)) → Q (.ref r) H'
def QdY (C : Addr) : Sp := fun vs H Q _ => ∃ (p l : Addr) (A : HA) (S : HS) (hs : List Int), vs = [.ref p, .ref l] ∧ HouseAt C H p A S ∧ H l = some (.lst (hs.map V.int)) ∧ l ∉ A.foot p ∧ S.boxes.length < 64 ∧ (∀ b ∈ S.boxes, b.kind = "weak" → 0 < b.row.length) ∧
 OutL C H p A { S with boxes := brk (Q3 hs S.boxes) loose S.boxes } (Q3 hs S.boxes) Q
def Qde (C : Addr) : Sp := fun vs H Q _ => ∃ (p l : Addr) (A : HA) (S : HS) (hs : List Int), vs = [.ref p, .ref l] ∧ HouseAt C H p A S ∧ H l = some (.lst (hs.map V.int)) ∧ l ∉ A.foot p ∧ S.boxes.length < 64 ∧ (∀ b ∈ S.boxes, b.kind = "pair" → b.row.length = 2) ∧
 hs.Pairwise (· < ·) ∧ (∀ n ∈ hs, n ∈ names S) ∧ OutL C H p A { S with boxes := brk (Zz hs S.boxes) QgD S.boxes } (Zz hs S.boxes) Q
def Qdd (C : Addr) : Sp := fun vs H Q _ => ∃ (p l : Addr) (A : HA) (S : HS) (hs : List Int), vs = [.ref p, .ref l] ∧ HouseAt C H p A S ∧ H l = some (.lst (hs.map V.int)) ∧ l ∉ A.foot p ∧ S.boxes.length < 64 ∧
 OutL C H p A { S with boxes := S.boxes.filter fun b => decide (b.name ∈ hs) } (Zs hs S.boxes) Q
def Qkg (hs : List Int) (S : HS) (g : Nat) : HS := { S with queues := S.queues.modify g (·.filter fun n => decide (n ∈ hs)), told := S.told.modify g (· ++ (S.queues.getD g []).filter fun n => !decide (n ∈ hs)) }
def Qak (hs : List Int) (S : HS) : Nat → HS
 | 0 => S
 | i + 1 => Qkg hs (Qak hs S i) i
def Qx (hs : List Int) (S : HS) : Nat → List (Nat × Int)
 | 0 => []
 | i + 1 => Qx hs S i ++ ((S.queues.getD i []).filter fun n => !decide (n ∈ hs)).map fun n => (i, n)
theorem QdR (hs : List Int) (S : HS) : ∀ i g, i ≤ g → (Qak hs S i).queues[g]? = S.queues[g]? ∧ (Qak hs S i).told[g]? = S.told[g]?
 | 0, _, _ => ⟨rfl, rfl⟩
 | i + 1, g, h => by
  obtain ⟨a, b⟩ := QdR hs S i g (by omega)
  have ne : ¬ i = g := by omega
  constructor
  ·show ((Qak hs S i).queues.modify i _)[g]? = _
   rw [List.getElem?_modify, a]
   cases S.queues[g]? <;> simp [ne]
  ·show ((Qak hs S i).told.modify i _)[g]? = _
   rw [List.getElem?_modify, b]
   cases S.told[g]? <;> simp [ne]
def Qbn (H : Hp) (r : Addr) (ws : List (Nat × Int)) (as : List Addr) : Prop := H r = some (.lst (as.map V.ref)) ∧ Paired (fun (x : Nat × Int) a => H a = some (.tup [.int (x.1 : Int), .int x.2])) ws as
structure HS.OkQ (S : HS) : Prop where
 q4 : S.queues.length = 4
 t4 : S.told.length = 4
 un : ∀ xs ∈ S.queues, xs.Nodup
 nm : ∀ xs ∈ S.queues, ∀ n ∈ xs, n ∈ names S
 few : ∀ (g : Nat) (xs ys : List Int), S.queues[g]? = some xs → S.told[g]? = some ys → ys.length + xs.length ≤ 900
def Qdb (C : Addr) : Sp := fun vs H Q _ => ∃ (p l : Addr) (A : HA) (S : HS) (hs : List Int), vs = [.ref p, .ref l] ∧ HouseAt C H p A S ∧ H l = some (.lst (hs.map V.int)) ∧ l ∉ A.foot p ∧ S.OkQ ∧
 ∀ A' H' r as, Upto C H p A H' A' (Qak hs S 4) → H r = none → r ∉ A'.foot p → Qbn H' r (Qx hs S 4) as → Q (.ref r) H'
def HS.loosened (S : HS) (hA : List Int) : HS := Qak hA { S with boxes := brk (Q3 hA S.boxes) loose S.boxes } 4
def HS.parted (S : HS) (hB : List Int) : HS := { S with boxes := (brk (Zz hB S.boxes) QgD S.boxes).filter fun b => decide (b.name ∈ hB) }
structure Swept (S : HS) (b0 : Option Int) (hA hB : List Int) (S' : HS) : Prop where
 a1 : hA.Pairwise (· < ·)
 a2 : ∀ n, n ∈ hA ↔ QcS S b0 n
 b1 : hB.Pairwise (· < ·)
 b2 : ∀ n, n ∈ hB ↔ QcS (S.loosened hA) b0 n
 e : S' = (S.loosened hA).parted hB
structure ToldAt (H : Hp) (v : Addr) (gone weak pairs : List Int) (ws : List (Nat × Int)) (l1 l2 l3 l4 : Addr) (as : List Addr) : Prop where
 tu : H v = some (.tup [.ref l1, .ref l2, .ref l3, .ref l4])
 g : H l1 = some (.lst (gone.map V.int))
 w : H l2 = some (.lst (weak.map V.int))
 p : H l3 = some (.lst (pairs.map V.int))
 ws : Qbn H l4 ws as
structure HS.OkW (S : HS) : Prop where
 ok : S.Ok
 q : S.OkQ
 few : S.boxes.length < 64
 weak : ∀ b ∈ S.boxes, b.kind = "weak" → b.row.length = 1
 kd : ∀ b ∈ S.boxes, b.kind = "plain" ∨ b.kind = "weak" ∨ b.kind = "pair"
def QhP (C : Addr) : Sp := fun vs H Q _ => ∃ (p : Addr) (A : HA) (S : HS) (b0 : Option Int), vs = [.ref p, besV b0] ∧ HouseAt C H p A S ∧ S.OkW ∧ (∀ n, b0 = some n → n ∈ names S) ∧
 ∀ A' H' hA hB S' v l1 l2 l3 l4 as, Swept S b0 hA hB S' → Upto C H p A H' A' S' → ToldAt H' v (Zs hB (S.loosened hA).boxes) (Q3 hA S.boxes) (Zz hB (S.loosened hA).boxes) (Qx hA S 4) l1 l2 l3 l4 as →
  Grown (A.foot p) [l1, l2, l3, l4] H → (∀ b ∈ [l1, l2, l3, l4], b ∉ A'.foot p) → [l1, l2, l3, l4].Nodup → Q (.ref v) H'
section
variable {C : Addr} {H H1 : Hp} {p a : Addr} {A : HA} {S S' : HS} {vs : List V} {o : HO}
theorem HouseAt.uptoOne (h : HouseAt C H p A S) (hm : a ∈ A.lists) (hw : H a = some (.lst vs)) (h' : HouseAt C (upd H a o) p A S') : Upto C H p A (upd H a o) A S' :=
 ⟨h', fun b o' q n => by rw [Qf (fun e => n (by rw [e]; simp [HA.foot, hm]))]; exact q, Tups.upd hw (by intro xs z; cases z), Grown.refl _ _⟩
theorem Upto.trans {H2 : Hp} {A1 A2 : HA} {S1 S2 : HS} (u : Upto C H p A H1 A1 S1) (v : Upto C H1 p A1 H2 A2 S2) : Upto C H p A H2 A2 S2 := u.step v.hh v.fr v.tu v.gr
end
theorem Qab {α : Type} {l : List α} {i : Nat} {x : α} (h : l[i]? = some x) : l.take (i + 1) = l.take i ++ [x] := by rw [List.take_add_one, h]; rfl
theorem QO {α : Type} {l : List α} {i : Nat} {x : α} (p : α → Bool) (h : l[i]? = some x) : (l.take (i + 1)).filter p = (l.take i).filter p ++ if p x = true then [x] else [] := by
 rw [Qab h, List.filter_append]
 congr 1
 by_cases e : p x = true <;> simp [e]
theorem Qj9 {S : HS} {i : Nat} {x : V} (h : ((names S).map V.int)[i]? = some x) : ∃ b, S.boxes[i]? = some b ∧ x = .int b.name := by
 rw [List.getElem?_map, names, List.getElem?_map] at h
 cases e : S.boxes[i]? with
 | none => rw [e] at h; cases h
 | some b => rw [e] at h; exact ⟨b, rfl, (Option.some.inj h).symm⟩
theorem boxAt {bs : List Box} {i : Nat} {x : V} (h : ((bs.map (·.name)).map V.int)[i]? = some x) : ∃ b, bs[i]? = some b ∧ x = .int b.name := by
 rw [List.getElem?_map, List.getElem?_map] at h
 cases e : bs[i]? with
 | none => rw [e] at h; cases h
 | some b => rw [e] at h; exact ⟨b, rfl, (Option.some.inj h).symm⟩
theorem intAt {l : List Int} {i : Nat} {y : V} (hy : (l.map V.int)[i]? = some y) : ∃ n, l[i]? = some n ∧ y = .int n := by
 rw [List.getElem?_map] at hy
 cases e : l[i]? with
 | none => rw [e] at hy; cases hy
 | some h => rw [e] at hy; exact ⟨h, rfl, (Option.some.inj hy).symm⟩
theorem Qgs {bs : List Box} {f : Box → Bool} {i : Nat} {n : Int} (nd : (bs.map (·.name)).Nodup) (h : ((bs.filter f).map (·.name))[i]? = some n) : ∃ (k : Nat) (b : Box), bs[k]? = some b ∧ b.name = n ∧ f b = true ∧ n ∉ ((bs.filter f).map (·.name)).take i := by
 have h' := h
 rw [List.getElem?_map] at h
 cases e : (bs.filter f)[i]? with
 | none => rw [e] at h; cases h
 | some b =>
  rw [e] at h
  have hn : b.name = n := Option.some.inj h
  obtain ⟨m1, m2⟩ := List.mem_filter.mp (List.mem_of_getElem? e)
  obtain ⟨k, hk⟩ := List.getElem?_of_mem m1
  refine ⟨k, b, hk, hn, m2, fun z => ?_⟩
  obtain ⟨j, hj⟩ := List.getElem?_of_mem z
  have hlt := (List.getElem?_eq_some_iff.mp hj).1
  have hji : j < i := by simp at hlt; omega
  rw [List.getElem?_take_of_lt hji] at hj
  have nd' : ((bs.filter f).map (·.name)).Nodup := nd.sublist (List.filter_sublist.map _)
  have := Qbp nd' hj h'
  omega
theorem QaO (hs : List Int) (bs : List Box) : Zs hs bs = (bs.map (·.name)).filter fun n => !decide (n ∈ hs) := by
 rw [Zs, List.filter_map]; rfl
theorem Qhw (hs ns : List Int) (f : List T → List T) (bs : List Box) : Zs hs (brk ns f bs) = Zs hs bs := by rw [QaO, QaO, QdN]
theorem Qit {hs : List Int} {bs : List Box} : (bs.filter fun b => !decide (b.name ∈ Zs hs bs)) = bs.filter fun b => decide (b.name ∈ hs) := by
 refine List.filter_congr fun b hb => ?_
 rw [QaO]
 have hm : b.name ∈ bs.map (·.name) := List.mem_map.mpr ⟨b, hb, rfl⟩
 by_cases e : b.name ∈ hs <;> simp [List.mem_filter, e]
 exact ⟨b, hb, rfl⟩
theorem Qjc {xs : List Int} {i : Nat} {n : Int} (nd : xs.Nodup) (h : xs[i]? = some n) (f : Int → Bool) : n ∈ (xs.take i).filter f ++ xs.drop i ∧ ((xs.take i).filter f ++ xs.drop i).erase n = (xs.take i).filter f ++ xs.drop (i + 1) := by
 have hlt := (List.getElem?_eq_some_iff.mp h).1
 have hd : xs.drop i = n :: xs.drop (i + 1) := by rw [List.drop_eq_getElem_cons hlt]; congr 1; exact (List.getElem?_eq_some_iff.mp h).2
 have nt : n ∉ (xs.take i).filter f := fun z => by
  have z := (List.mem_filter.mp z).1
  obtain ⟨j, hj⟩ := List.getElem?_of_mem z
  have hl2 := (List.getElem?_eq_some_iff.mp hj).1
  have hji : j < i := by simp at hl2; omega
  rw [List.getElem?_take_of_lt hji] at hj
  have := Qbp nd hj h
  omega
 rw [hd]
 refine ⟨by simp, ?_⟩
 rw [List.erase_append_right _ nt, List.erase_cons_head]
theorem QkN {xs : List Int} {i : Nat} {n : Int} (h : xs[i]? = some n) : xs.drop i = n :: xs.drop (i + 1) := by
 have hlt := (List.getElem?_eq_some_iff.mp h).1
 rw [List.drop_eq_getElem_cons hlt]; congr 1; exact (List.getElem?_eq_some_iff.mp h).2
theorem QjX {α : Type} {l : List α} {i : Nat} {x : α} (h : l[i]? = some x) : l.set i x = l := by
 obtain ⟨hl, he⟩ := List.getElem?_eq_some_iff.mp h
 rw [← he]
 exact List.set_getElem_self hl
theorem Qe0 {α : Type} {l : List α} {i : Nat} {x : α} {f : α → α} (h : l[i]? = some x) : l.modify i f = l.set i (f x) := by
 refine List.ext_getElem? fun j => ?_
 rw [List.getElem?_modify, List.getElem?_set]
 by_cases e : i = j
 ·subst e
  have hl := (List.getElem?_eq_some_iff.mp h).1
  rw [h]; simp [hl]
 ·simp [e]
theorem Qjd {hs : List Int} {S : HS} {g : Nat} {xs ys : List Int} (hq : S.queues[g]? = some xs) (ht : S.told[g]? = some ys) : Qkg hs S g = S.tell g (xs.filter fun n => decide (n ∈ hs)) (ys ++ xs.filter fun n => !decide (n ∈ hs)) := by
 unfold Qkg HS.tell
 rw [Qe0 hq, Qe0 ht]
 have : S.queues.getD g [] = xs := by rw [List.getD_eq_getElem?_getD, hq]; rfl
 rw [this]
theorem QfN {hs : List Int} {S : HS} {g : Nat} {xs : List Int} (hq : S.queues[g]? = some xs) : Qx hs S (g + 1) = Qx hs S g ++ (xs.filter fun n => !decide (n ∈ hs)).map fun n => (g, n) := by
 have : S.queues.getD g [] = xs := by rw [List.getD_eq_getElem?_getD, hq]; rfl
 show Qx hs S g ++ _ = _
 rw [this]
section
variable {C CS : Addr}
theorem Qeg {f : Addr} (F : Fun K "tell" "House.tell" QaQ f fd) (T : TX K mg C)  :
  FnOk P w K mg base CX0 (n + 1) f fd ["self", "guard", "name"] (QjR C) := by
 refine F.ok Qd2 (by rintro _ _ _ _ ⟨_, _, _, _, _, _, _, rfl, _⟩; rfl) fun _ _ _ s H vs Q E hr h => ?_
 obtain ⟨p, A', S, g, xs, ys, n, rfl, hh, hq, ht, hn, hl, k⟩ := h
 have hu := QC hr
 refine ⟨_, (Qc (Qk (QcF PySem.F.plainAttrs_list PySem.F.slot_list_remove PySem.F.type_list_remove Qf4 (QG QI (Qw (pv 0) rfl) (pv 1) (fun _ _ => rfl)) (Qa (pv 2) Qe)))
  (Qh (Qk (QcF PySem.F.plainAttrs_list PySem.F.slot_list_append PySem.F.type_list_append Qaf (QG QI (Qw (pv 0) rfl) (pv 1) (fun _ _ => rfl)) (Qa (pv 2) Qe))))), ?_⟩
 obtain ⟨a, ha, hi⟩ := Q6 hh.ql hq
 have hix : atI (A'.ql.map V.ref) (g : Int) = some (.ref a) := Zh (by rw [List.getElem?_map, ha]; rfl)
 refine ⟨_, rfl, p, C, A'.dx, _, _, rfl, hh.ob, T.cl, T.n_queues, Qa2, _, rfl, A'.qs, _, g, .ref a, rfl, rfl, SqL.of hh.qs, hix, .inl ⟨rfl, _, SqL.of hi⟩, _, rfl, a, xs, n, rfl, rfl, hi, hn, ?_⟩
 have h1 := hh.setQueue (ms := xs.erase n) ha hi
 have u1 := hh.uptoOne (by simp [HA.lists, List.mem_of_getElem? ha]) hi h1
 obtain ⟨b, hb, hbi⟩ := Q6 h1.tl ht
 have hix2 : atI (A'.tl.map V.ref) (g : Int) = some (.ref b) := Zh (by rw [List.getElem?_map, hb]; rfl)
 refine ⟨_, rfl, p, C, A'.dx, _, _, rfl, h1.ob, T.cl, T.n_told, Qc2, _, rfl, A'.td, _, g, .ref b, rfl, rfl, SqL.of h1.td, hix2, .inl ⟨rfl, _, SqL.of hbi⟩, _, rfl, b, _, _, rfl, rfl, hbi, by rw [List.length_map]; exact QK (by omega), ?_⟩
 have e : ys.map V.int ++ [V.int n] = (ys ++ [n]).map V.int := by simp
 rw [e]
 have h2 := h1.setTold (ms := ys ++ [n]) hb hbi
 exact (u1.trans (h1.uptoOne (by simp [HA.lists, List.mem_of_getElem? hb]) hbi h2)).out k
theorem Qeo {f : Addr} (F : Fun K "drop" "House.drop" QaX f fd) (T : TX K mg C)  :
  FnOk P w K mg base CX0 (n + 1) f fd ["self", "name"] (QjW C) := by
 refine F.ok Qd9 (by rintro _ _ _ _ ⟨_, _, _, _, _, rfl, _⟩; rfl) fun _ _ _ s H vs Q E hr h => ?_
 obtain ⟨p, A', S, i, b, rfl, hh, hi, k⟩ := h
 have hu := QC hr
 refine ⟨_, (Qc (Qk (Qg4 (Qw (pv 0) rfl) (pv 1) ⟨rfl, rfl, rfl, rfl⟩))
  (Qh (Qk (Qg4 (Qw (pv 0) rfl) (pv 1) ⟨rfl, rfl, rfl, rfl⟩)))), ?_⟩
 have pk : p ≠ A'.kd := QB hh.ob hh.kd (by intro z; cases z)
 have pf : p ≠ A'.fd := QB hh.ob hh.fd (by intro z; cases z)
 obtain ⟨a, ws, ha, hw, htw, hv⟩ := hh.rowAt hi
 have kk : (Qr S.boxes)[i]? = some ((Sum.inl b.name : Key), V.str b.kind) := by rw [Qr, List.getElem?_map, hi]; rfl
 have kf : (Qm S.boxes A'.fl)[i]? = some ((Sum.inl b.name : Key), V.ref a) := by
  rw [Qm, List.getElem?_map, List.getElem?_zip_eq_some.mpr (show S.boxes[i]? = some (b, a).1 ∧ A'.fl[i]? = some (b, a).2 from ⟨hi, ha⟩)]; rfl
 refine ⟨_, rfl, p, C, A'.dx, _, _, rfl, hh.ob, T.cl, T.n_kinds, Qb6, A'.kd, rfl, .inl ⟨_, Rd.of hh.kd⟩, _, rfl, _, Sum.inl b.name, _, hh.kd, rfl, hh.kindAt hi, ?_⟩
 rw [Qhb hh.ndK kk]
 have ob1 : (upd H A'.kd (.dK ((Qr S.boxes).eraseIdx i))) p = some (.ins C A'.dx (Qa4 A' S)) := by rw [Qf pk]; exact hh.ob
 have fd1 : (upd H A'.kd (.dK ((Qr S.boxes).eraseIdx i))) A'.fd = some (.dK (Qm S.boxes A'.fl)) := by rw [Qf hh.kf.symm]; exact hh.fd
 refine ⟨_, rfl, p, C, A'.dx, _, _, rfl, ob1, T.cl, T.n_fields, Qa3, A'.fd, rfl, .inl ⟨_, Rd.of fd1⟩, _, rfl, _, Sum.inl b.name, _, fd1, rfl, hv, ?_⟩
 rw [Qhb hh.ndF kf]
 have kp : ∀ c, c ≠ A'.kd → c ≠ A'.fd → (upd (upd H A'.kd (.dK ((Qr S.boxes).eraseIdx i))) A'.fd (.dK ((Qm S.boxes A'.fl).eraseIdx i))) c = H c := fun c h1 h2 => by rw [Qf h2, Qf h1]
 refine k _ _ (hh.dropped hi (by rw [Qf hh.kf, Qb]) Qb kp) (fun c o e n => ?_) (fun c xs e => ?_) (fun c hc => ?_)
 ·rw [kp c (fun e => n (by rw [e]; simp [HA.foot])) (fun e => n (by rw [e]; simp [HA.foot]))]; exact e
 ·rw [kp c (QB e hh.kd (by intro z; cases z)) (QB e hh.fd (by intro z; cases z))]; exact e
 ·left
  simp only [HA.foot, HA.lists, List.mem_cons, List.mem_append] at hc ⊢
  rcases hc with h | h | h | h | h | h | h | h
  ·exact .inl h
  ·exact .inr (.inl h)
  ·exact .inr (.inr (.inl h))
  ·exact .inr (.inr (.inr (.inl h)))
  ·exact .inr (.inr (.inr (.inr (.inl h))))
  ·exact .inr (.inr (.inr (.inr (.inr (.inl h)))))
  ·exact .inr (.inr (.inr (.inr (.inr (.inr (.inl (List.mem_of_mem_eraseIdx h)))))))
  ·exact .inr (.inr (.inr (.inr (.inr (.inr (.inr h))))))
theorem Qcc {f : Addr} (F : Fun K "leads_to_unheld" "leads_to_unheld" ZM f fd) (T : TX K mg C) (D1_ : DefOk P w K mg base n "box_name" ["thing"] (Qac) [[]])
  (M2_ : MethOk P w K mg base C n "field" ["self", "name", "at"] (QcU C) [[]]) :
  FnOk P w K mg base CX0 (n + 1) f fd ["house", "name", "held"] (Qgu C) := by
 refine F.ok Qal (by rintro _ _ _ _ ⟨_, _, _, _, _, _, _, rfl, _⟩; rfl) fun _ _ _ s H vs Q E hr h => ?_
 obtain ⟨p, l, A', S, i, b, hs, rfl, hh, hi, hpos, hl, k⟩ := h
 have hu := QC hr
 refine ⟨_, (Qc (Qq (i := 3) Qal.nd rfl (Or.inl rfl) (qc D1_ hr (Qa (qm M2_ (pv 0) T.cl hr (Qa (pv 1) (Qa Qi Qe))) Qe)))
  (Qh (Qs (Qj1 (pe_cmp (Qco (pv 3))) (Qj0 (Qee QaN (pv 3) (pv 2) rfl)))))), ?_⟩
 obtain ⟨t, ht⟩ : ∃ t, b.row[0]? = some t := ⟨b.row[0], List.getElem?_eq_getElem hpos⟩
 refine ⟨_, rfl, p, A'.dx, _, rfl, hh.ob, Ql, _, rfl, p, A', S, i, b, 0, t, rfl, hh, hi, ht, fun v tv => ?_⟩
 refine ⟨v, t, rfl, tv, ?_⟩
 unfold Qar at k
 rw [ht] at k
 cases t with
 | non => exact ⟨_, rfl, _, rfl, Qbz k⟩
 | num m => exact ⟨_, rfl, _, rfl, Qbz k⟩
 | box m =>
  refine ⟨_, rfl, _, rfl, Qcd ⟨_, rfl, _, rfl, l, _, rfl, .inl (SqL.of hl), rfl, QbT hs, ?_⟩⟩
  show Q (.bl (!inV (.int m) (hs.map V.int))) H
  rw [QcL]
  exact k
theorem Qc9 : QD (Qg QY) ["house", "held", "weak", "broken", "name"] (QP ((Qbq (QeR (Qo QY) 0)))) "name" ["house"] [0] :=
 bsk
theorem Qc8 : QD (Qg QY) ["house", "held", "weak", "broken", "name"] (QP ((Qbq (QeR (Qo QY) 1)))) "name" ["house", "held"] [0, 1] :=
 bsk
theorem Qeq {f : Addr} (F : Fun K "break_weak" "break_weak" QY f fd) (T : TX K mg C) (M1_ : MethOk P w K mg base C n "names" ["self"] (QdU C) [[]])
  (M2_ : MethOk P w K mg base C n "kind" ["self", "name"] (QfR C) [[]])
  (D3_ : DefOk P w K mg base n "leads_to_unheld" ["house", "name", "held"] (Qgu C) [[]])
  (M4_ : MethOk P w K mg base C n "put" ["self", "name", "at", "thing"] (Qje C) [[]]) :
  FnOk P w K mg base CX0 (n + 1) f fd ["house", "held"] (QdY C) := by
 refine F.ok ZW (by rintro _ _ _ _ ⟨_, _, _, _, _, rfl, _⟩; rfl) fun _ _ _ s H vs Q E hr h => ?_
 obtain ⟨p, l, A', S, hs, rfl, hh, hl, hout, h64, hwk, k⟩ := h
 have hu := QC hr
 refine ⟨_, (Qc (Qa1 (i := 2) Qc9 rfl ZW.nd rfl (Or.inl rfl) (QR (qm0 M1_ (pv 0) T.cl hr)) (fun _ _ _ _ => (Qbi (Qp QaJ (qm M2_ (pv 1) T.cl hr (Qa (pv 0) Qe)) Z1 (QF _)))) (fun _ _ _ _ => (pv 0)))
  (Qc (Qa1 (i := 3) Qc8 rfl ZW.nd rfl (Or.inl rfl) (QR (pv 2)) (fun _ _ _ _ => (Qbi (Qch (qc D3_ hr (Qa (pv 1) (Qa (pv 0) (Qa (pv 2) Qe))))))) (fun _ _ _ _ => (pv 0)))
  (Qc (Za PassesOwn.never rfl (QR (pv 3)) (QS (i := 4) ZW.nd rfl (Or.inl rfl))
  (Qh (Qk (qm M4_ (pv 0) T.cl hr (Qa (pv 4) (Qa Qi (Qa QcD Qe)))))))
  (Qh (Qs (pv 3)))))), ?_⟩
 refine ⟨_, rfl, p, A'.dx, _, rfl, hh.ob, Ql, p, A', S, rfl, hh, h64, fun l0 hl0 => ⟨l0, rfl, ⟨_, SqL.of Qb⟩, ?_⟩⟩
 have hh1 := hh.new (o := .lst ((names S).map V.int)) hl0
 have s1 : Same H (upd H l0 (.lst ((names S).map V.int))) := Same.new hl0
 have n1 : (upd H l0 (.lst ((names S).map V.int))) l0 = some (.lst ((names S).map V.int)) := Qb
 generalize upd H l0 (.lst ((names S).map V.int)) = H1 at hh1 s1 n1 ⊢
 have nl : (names S).length < 64 := by simpa [names] using h64
 refine Z2 (xs := (names S).map V.int) (fun i ys H' => H' = H1 ∧ ys = (((S.boxes.take i).filter fun b => decide (b.kind = ("weak" : Str))).map (·.name)).map V.int) ⟨rfl, rfl⟩ ?_ (Zr (by simp; omega)) (fun i ys H' _ z => by rw [z.1]; exact SqL.of n1) ?_ ?_
 ·rintro i ys H' ⟨_, rfl⟩
  rw [List.length_map, List.length_map]
  exact Nat.le_trans (List.length_filter_le _ _) (by rw [List.length_take]; omega)
 ·rintro i x ys H' hx ⟨rfl, rfl⟩
  obtain ⟨b, hb, rfl⟩ := Qj9 hx
  refine ⟨_, rfl, p, A'.dx, _, rfl, hh1.ob, Ql, _, rfl, p, A', S, i, b, rfl, hh1, hb, rfl, _, rfl, ?_⟩
  rw [QO _ hb]
  by_cases e : b.kind = "weak"
  ·rw [decide_eq_true (show V.str b.kind = V.str "weak" by rw [e])]
   refine Qcd ⟨_, rfl, rfl, ?_⟩
   simp [e]
  ·rw [decide_eq_false (show ¬ V.str b.kind = V.str "weak" from fun z => e (V.str.inj z))]
   refine Qbz ⟨rfl, ?_⟩
   simp [e]
 rintro ys H' ⟨rfl, rfl⟩ l1 hl1
 rw [List.length_map, show (names S).length = S.boxes.length by simp [names], List.take_length]
 generalize hws : (S.boxes.filter fun b => decide (b.kind = ("weak" : Str))) = wsb
 have n2 : (upd H' l1 (.lst ((wsb.map (·.name)).map V.int))) l1 = some (.lst ((wsb.map (·.name)).map V.int)) := Qb
 have s2 := s1.trans (Same.new (o := .lst ((wsb.map (·.name)).map V.int)) hl1)
 generalize upd H' l1 (.lst ((wsb.map (·.name)).map V.int)) = H2 at n2 s2 ⊢
 have hh2 := hh.same s2
 have wl : wsb.length < 64 := by rw [← hws]; exact Nat.lt_of_le_of_lt (List.length_filter_le _ _) h64
 refine ⟨_, rfl, l1, rfl, ⟨_, SqL.of n2⟩, ?_⟩
 refine Z2 (xs := (wsb.map (·.name)).map V.int) (fun i ys H' => H' = H2 ∧ ys = (((wsb.take i).filter (Qar hs)).map (·.name)).map V.int) ⟨rfl, rfl⟩ ?_ (Zr (by simp; omega)) (fun i ys H' _ z => by rw [z.1]; exact SqL.of n2) ?_ ?_
 ·rintro i ys H' ⟨_, rfl⟩
  rw [List.length_map, List.length_map]
  exact Nat.le_trans (List.length_filter_le _ _) (by rw [List.length_take]; omega)
 ·rintro i x ys H' hx ⟨rfl, rfl⟩
  obtain ⟨b, hb, rfl⟩ := boxAt hx
  have hm := List.mem_of_getElem? hb
  rw [← hws] at hm
  obtain ⟨m1, m2⟩ := List.mem_filter.mp hm
  obtain ⟨kk, hk⟩ := List.getElem?_of_mem m1
  refine ⟨_, rfl, _, rfl, _, rfl, p, l, A', S, kk, b, hs, rfl, hh2, hk, hwk b m1 (of_decide_eq_true m2), s2 _ _ hl, _, rfl, ?_⟩
  rw [QO _ hb]
  cases e : Qar hs b with
  | true =>
   refine Qcd ⟨_, rfl, rfl, ?_⟩
   simp [e]
  | false =>
   refine Qbz ⟨rfl, ?_⟩
   simp [e]
 rintro ys H' ⟨rfl, rfl⟩ r hr3
 rw [List.length_map, List.length_map, List.take_length]
 have ew : (wsb.filter (Qar hs)).map (·.name) = Q3 hs S.boxes := by
  rw [Q3, ← hws, List.filter_filter]
  congr 1
  exact List.filter_congr fun b _ => Bool.and_comm _ _
 rw [ew]
 have n3 : (upd H' r (.lst ((Q3 hs S.boxes).map V.int))) r = some (.lst ((Q3 hs S.boxes).map V.int)) := Qb
 have nr : H r = none := s2.free hr3
 have u0 : Upto C H p A' (upd H' r (.lst ((Q3 hs S.boxes).map V.int))) A' S := (Upto.refl hh).same (s2.trans (Same.new hr3))
 have ro : r ∉ A'.foot p := hh.out nr
 generalize upd H' r (.lst ((Q3 hs S.boxes).map V.int)) = H3 at n3 u0 ⊢
 refine ⟨_, rfl, r, rfl, ⟨_, SqL.of n3⟩, ?_⟩
 refine Zv (K := K) (xs := (Q3 hs S.boxes).map V.int) (fun i σ H4 => ∃ v_weak v_name A4, σ = [some (.ref p), some (.ref l), v_weak, some (.ref r), v_name] ∧ Upto C H p A' H4 A4 { S with boxes := brk ((Q3 hs S.boxes).take i) loose S.boxes } ∧ r ∉ A4.foot p ∧ H4 r = some (.lst ((Q3 hs S.boxes).map V.int))) ?_ ?_ ?_ ?_
 ·refine ⟨_, _, A', rfl, ?_, ro, n3⟩
  rw [List.take_zero, QiX]
  exact u0
 ·rintro i σ H4 _ ⟨_, _, A4, rfl, _, _, h4⟩
  exact SqL.of h4
 ·rintro i y σ H4 hy ⟨v1, v2, A4, rfl, u4, o4, h4⟩
  obtain ⟨n, hn, rfl⟩ := intAt hy
  obtain ⟨kk, b, hk, hbn, hf, hnot⟩ := Qgs hh.nm hn
  have hnot : n ∉ (Q3 hs S.boxes).take i := hnot
  have hwb : b.kind = "weak" ∧ Qar hs b = true := by simpa using hf
  subst hbn
  have hk4 : (brk ((Q3 hs S.boxes).take i) loose S.boxes)[kk]? = some b := by rw [Qe7 hk, if_neg hnot]
  refine ⟨_, rfl, p, A4.dx, _, rfl, u4.hh.ob, Ql, _, rfl, p, A4, _, kk, b, 0, .non, .non, rfl, u4.hh, hk4, hwk b (List.mem_of_getElem? hk) hwb.1, rfl, (fun n' e => by cases e), fun A5 H5 hh5 fr5 tu5 gr5 => ?_⟩
  have e5 : HS.put { S with boxes := brk ((Q3 hs S.boxes).take i) loose S.boxes } kk 0 .non = { S with boxes := brk ((Q3 hs S.boxes).take (i + 1)) loose S.boxes } := by
   show HS.mk _ _ _ (Zy (brk ((Q3 hs S.boxes).take i) loose S.boxes) _ _ _) _ _ = _
   rw [QiY hh.nm hk hnot, Qab hn]
  rw [e5] at hh5
  exact ⟨_, _, A5, rfl, u4.step hh5 fr5 tu5 gr5, gr5.out h4 o4, fr5 _ _ h4 o4⟩
 ·rintro σ H4 ⟨v1, v2, A4, rfl, u4, o4, h4⟩
  rw [List.length_map, List.take_length] at u4
  exact ⟨_, rfl, k A4 H4 r u4 nr o4 h4⟩
end
section
variable {C CS : Addr}
theorem QcP : QD (Qg Zp) ["house", "held", "gone", "name"] (QP ((Qbq (QeR (Qo Zp) 0)))) "name" ["held"] [1] :=
 bsk
theorem QdB {f : Addr} (F : Fun K "drop_unheld" "drop_unheld" Zp f fd) (T : TX K mg C) (M1_ : MethOk P w K mg base C n "names" ["self"] (QdU C) [[]])
  (M2_ : MethOk P w K mg base C n "drop" ["self", "name"] (QjW C) [[]]) :
  FnOk P w K mg base CX0 (n + 1) f fd ["house", "held"] (Qdd C) := by
 refine F.ok Qai (by rintro _ _ _ _ ⟨_, _, _, _, _, rfl, _⟩; rfl) fun _ _ _ s H vs Q E hr h => ?_
 obtain ⟨p, l, A', S, hs, rfl, hh, hl, hout, h64, k⟩ := h
 have hu := QC hr
 refine ⟨_, (Qc (Qa1 (i := 2) QcP rfl Qai.nd rfl (Or.inl rfl) (QR (qm0 M1_ (pv 0) T.cl hr)) (fun _ _ _ _ => (Qbi (Qp (Qih (K' := K) rfl) (pv 0) (pv 1) rfl))) (fun _ _ _ _ => (pv 0)))
  (Qc (Za PassesOwn.never rfl (QR (pv 2)) (QS (i := 3) Qai.nd rfl (Or.inl rfl))
  (Qh (Qk (qm M2_ (pv 0) T.cl hr (Qa (pv 3) Qe)))))
  (Qh (Qs (pv 2))))), ?_⟩
 refine ⟨_, rfl, p, A'.dx, _, rfl, hh.ob, Ql, p, A', S, rfl, hh, h64, fun l0 hl0 => ⟨l0, rfl, ⟨_, SqL.of Qb⟩, ?_⟩⟩
 have s1 : Same H (upd H l0 (.lst ((names S).map V.int))) := Same.new hl0
 have n1 : (upd H l0 (.lst ((names S).map V.int))) l0 = some (.lst ((names S).map V.int)) := Qb
 generalize upd H l0 (.lst ((names S).map V.int)) = H1 at s1 n1 ⊢
 have nl : (names S).length < 64 := by simpa [names] using h64
 refine Z2 (xs := (names S).map V.int) (fun i ys H' => H' = H1 ∧ ys = (((names S).take i).filter fun n => !decide (n ∈ hs)).map V.int) ⟨rfl, rfl⟩ ?_ (Zr (by simp; omega)) (fun i ys H' _ z => by rw [z.1]; exact SqL.of n1) ?_ ?_
 ·rintro i ys H' ⟨_, rfl⟩
  rw [List.length_map]
  exact Nat.le_trans (List.length_filter_le _ _) (by rw [List.length_take]; omega)
 ·rintro i x ys H' hx ⟨rfl, rfl⟩
  obtain ⟨n, hn, rfl⟩ := intAt hx
  refine ⟨_, rfl, _, rfl, l, _, rfl, .inl (SqL.of (s1 _ _ hl)), rfl, QbT hs, _, rfl, ?_⟩
  show if (!inV (.int n) (hs.map V.int)) = true then _ else _
  rw [QcL, QO _ hn]
  by_cases e : n ∈ hs
  ·rw [decide_eq_true e]
   refine Qbz ⟨rfl, ?_⟩
   simp [e]
  ·rw [decide_eq_false e]
   refine Qcd ⟨_, rfl, rfl, ?_⟩
   simp [e]
 rintro ys H' ⟨rfl, rfl⟩ r hr3
 rw [List.length_map, List.take_length]
 have ew : ((names S).filter fun n => !decide (n ∈ hs)) = Zs hs S.boxes := (QaO hs S.boxes).symm
 rw [ew]
 have n3 : (upd H' r (.lst ((Zs hs S.boxes).map V.int))) r = some (.lst ((Zs hs S.boxes).map V.int)) := Qb
 have nr : H r = none := s1.free hr3
 have u0 : Upto C H p A' (upd H' r (.lst ((Zs hs S.boxes).map V.int))) A' S := (Upto.refl hh).same (s1.trans (Same.new hr3))
 have ro : r ∉ A'.foot p := hh.out nr
 generalize upd H' r (.lst ((Zs hs S.boxes).map V.int)) = H3 at n3 u0 ⊢
 refine ⟨_, rfl, r, rfl, ⟨_, SqL.of n3⟩, ?_⟩
 refine Zv (K := K) (xs := (Zs hs S.boxes).map V.int) (fun i σ H4 => ∃ v_name A4, σ = [some (.ref p), some (.ref l), some (.ref r), v_name] ∧ Upto C H p A' H4 A4 { S with boxes := S.boxes.filter fun b => !decide (b.name ∈ (Zs hs S.boxes).take i) } ∧ r ∉ A4.foot p ∧ H4 r = some (.lst ((Zs hs S.boxes).map V.int))) ?_ ?_ ?_ ?_
 ·refine ⟨_, A', rfl, ?_, ro, n3⟩
  have : (S.boxes.filter fun b => !decide (b.name ∈ (Zs hs S.boxes).take 0)) = S.boxes := by simp
  rw [this]
  exact u0
 ·rintro i σ H4 _ ⟨_, A4, rfl, _, _, h4⟩
  exact SqL.of h4
 ·rintro i y σ H4 hy ⟨v1, A4, rfl, u4, o4, h4⟩
  obtain ⟨n, hn, rfl⟩ := intAt hy
  obtain ⟨kk, b, hk, hbn, hf, hnot⟩ := Qgs hh.nm hn
  have hnot : n ∉ (Zs hs S.boxes).take i := hnot
  subst hbn
  have hm : b ∈ S.boxes.filter fun b => !decide (b.name ∈ (Zs hs S.boxes).take i) := List.mem_filter.mpr ⟨List.mem_of_getElem? hk, by
   have hnot : b.name ∉ (Zs hs S.boxes).take i := hnot
   simp [hnot]⟩
  obtain ⟨j, hj⟩ := List.getElem?_of_mem hm
  refine ⟨_, rfl, p, A4.dx, _, rfl, u4.hh.ob, Ql, _, rfl, p, A4, _, j, b, rfl, u4.hh, hj, fun A5 H5 hh5 fr5 tu5 gr5 => ?_⟩
  have e5 : ((S.boxes.filter fun b => !decide (b.name ∈ (Zs hs S.boxes).take i)).eraseIdx j) = S.boxes.filter fun b => !decide (b.name ∈ (Zs hs S.boxes).take (i + 1)) := by
   rw [Qge u4.hh.nm hj, List.filter_filter, Qab hn]
   refine List.filter_congr fun x _ => ?_
   by_cases z1 : x.name = b.name <;> by_cases z2 : x.name ∈ (Zs hs S.boxes).take i <;> simp [z1, z2]
  have hh5' : HouseAt C H5 p A5 { S with boxes := S.boxes.filter fun b => !decide (b.name ∈ (Zs hs S.boxes).take (i + 1)) } := by rw [← e5]; exact hh5
  exact ⟨_, A5, rfl, u4.step hh5' fr5 tu5 gr5, gr5.out h4 o4, fr5 _ _ h4 o4⟩
 ·rintro σ H4 ⟨v1, A4, rfl, u4, o4, h4⟩
  rw [List.length_map, List.take_length, Qit] at u4
  exact ⟨_, rfl, k A4 H4 r u4 nr o4 h4⟩
theorem QcR : QD (Qg QN) ["house", "held", "pairs", "broken", "name"] (QP ((Qbq (QeR (Qo QN) 0)))) "name" ["house"] [0] :=
 bsk
theorem QcQ : QD (Qg QN) ["house", "held", "pairs", "broken", "name"] (QP ((Qbq (QeR (Qo QN) 1)))) "name" ["house", "held"] [0, 1] :=
 bsk
theorem QdC {f : Addr} (F : Fun K "break_pairs" "break_pairs" QN f fd) (T : TX K mg C) (M1_ : MethOk P w K mg base C n "kind" ["self", "name"] (QfR C) [[]])
  (D2_ : DefOk P w K mg base n "leads_to_unheld" ["house", "name", "held"] (Qgu C) [[]])
  (M3_ : MethOk P w K mg base C n "put" ["self", "name", "at", "thing"] (Qje C) [[]]) :
  FnOk P w K mg base CX0 (n + 1) f fd ["house", "held"] (Qde C) := by
 refine F.ok ZI (by rintro _ _ _ _ ⟨_, _, _, _, _, rfl, _⟩; rfl) fun _ _ _ s H vs Q E hr h => ?_
 obtain ⟨p, l, A', S, hs, rfl, hh, hl, hout, h64, hpr, hasc, hin, k⟩ := h
 have hu := QC hr
 refine ⟨_, (Qc (Qa1 (i := 2) QcR rfl ZI.nd rfl (Or.inl rfl) (QR (pv 1)) (fun _ _ _ _ => (Qbi (Qp QaJ (qm M1_ (pv 1) T.cl hr (Qa (pv 0) Qe)) Z1 (QF _)))) (fun _ _ _ _ => (pv 0)))
  (Qc (Qa1 (i := 3) QcQ rfl ZI.nd rfl (Or.inl rfl) (QR (pv 2)) (fun _ _ _ _ => (Qbi (Qch (qc D2_ hr (Qa (pv 1) (Qa (pv 0) (Qa (pv 2) Qe))))))) (fun _ _ _ _ => (pv 0)))
  (Qc (Za PassesOwn.never rfl (QR (pv 3)) (QS (i := 4) ZI.nd rfl (Or.inl rfl))
  (Qc (Qk (qm M3_ (pv 0) T.cl hr (Qa (pv 4) (Qa Qi (Qa QcD Qe)))))
  (Qh (Qk (qm M3_ (pv 0) T.cl hr (Qa (pv 4) (Qa Qi (Qa QcD Qe))))))))
  (Qh (Qs (pv 3)))))), ?_⟩
 have hnl : hs.length < 64 := by
  have := QbO (hasc.imp fun z => Int.ne_of_lt z) hin
  have : (names S).length = S.boxes.length := by simp [names]
  omega
 have boxOf : ∀ n ∈ hs, ∃ (kk : Nat) (b : Box), S.boxes[kk]? = some b ∧ b.name = n := fun n hn => by
  obtain ⟨b, hb, e⟩ := List.mem_map.mp (hin n hn)
  obtain ⟨kk, hk⟩ := List.getElem?_of_mem hb
  exact ⟨kk, b, hk, e⟩
 let isP : Int → Bool := fun n => S.boxes.any fun b => decide (b.name = n) && decide (b.kind = ("pair" : Str))
 have isP_at : ∀ {kk : Nat} {b : Box}, S.boxes[kk]? = some b → isP b.name = decide (b.kind = ("pair" : Str)) := fun {kk b} hk => by
  have hm := List.mem_of_getElem? hk
  by_cases e : b.kind = "pair"
  ·rw [decide_eq_true e]
   exact List.any_eq_true.mpr ⟨b, hm, by simp [e]⟩
  ·rw [decide_eq_false e]
   refine Bool.eq_false_iff.mpr fun z => ?_
   obtain ⟨x, hx, q⟩ := List.any_eq_true.mp z
   have q : x.name = b.name ∧ x.kind = "pair" := by simpa using q
   rw [ZS hh.nm hx hm q.1] at q
   exact e q.2
 refine ⟨_, rfl, l, rfl, ⟨_, SqL.of hl⟩, ?_⟩
 refine Z2 (xs := hs.map V.int) (fun i ys H' => H' = H ∧ ys = ((hs.take i).filter isP).map V.int) ⟨rfl, rfl⟩ ?_ (Zr (by simp; omega)) (fun i ys H' _ z => by rw [z.1]; exact SqL.of hl) ?_ ?_
 ·rintro i ys H' ⟨_, rfl⟩
  rw [List.length_map]
  exact Nat.le_trans (List.length_filter_le _ _) (by rw [List.length_take]; omega)
 ·rintro i x ys H' hx ⟨rfl, rfl⟩
  obtain ⟨n, hn, rfl⟩ := intAt hx
  obtain ⟨kk, b, hk, rfl⟩ := boxOf n (List.mem_of_getElem? hn)
  refine ⟨_, rfl, p, A'.dx, _, rfl, hh.ob, Ql, _, rfl, p, A', S, kk, b, rfl, hh, hk, rfl, _, rfl, ?_⟩
  have ei := isP_at hk
  rw [QO _ hn]
  by_cases e : b.kind = "pair"
  ·rw [decide_eq_true (show V.str b.kind = V.str "pair" by rw [e])]
   rw [decide_eq_true e] at ei
   refine Qcd ⟨_, rfl, rfl, ?_⟩
   rw [if_pos ei]; simp
  ·rw [decide_eq_false (show ¬ V.str b.kind = V.str "pair" from fun z => e (V.str.inj z))]
   rw [decide_eq_false e] at ei
   refine Qbz ⟨rfl, ?_⟩
   rw [if_neg (by rw [ei]; decide)]; simp
 rintro ys H0 ⟨rfl, rfl⟩ l1 hl1
 rw [List.length_map, List.take_length]
 generalize hps : hs.filter isP = ps
 have hpsm : ∀ n ∈ ps, n ∈ hs ∧ isP n = true := fun n hn => by rw [← hps] at hn; exact List.mem_filter.mp hn
 have n2 : (upd H0 l1 (.lst (ps.map V.int))) l1 = some (.lst (ps.map V.int)) := Qb
 have s2 : Same H0 (upd H0 l1 (.lst (ps.map V.int))) := Same.new hl1
 generalize upd H0 l1 (.lst (ps.map V.int)) = H2 at n2 s2 ⊢
 have hh2 := hh.same s2
 have wl : ps.length < 64 := by rw [← hps]; exact Nat.lt_of_le_of_lt (List.length_filter_le _ _) hnl
 let ldP : Int → Bool := fun n => S.boxes.any fun b => decide (b.name = n) && Qar hs b
 have ldP_at : ∀ {kk : Nat} {b : Box}, S.boxes[kk]? = some b → ldP b.name = Qar hs b := fun {kk b} hk => by
  have hm := List.mem_of_getElem? hk
  cases e : Qar hs b with
  | true => exact List.any_eq_true.mpr ⟨b, hm, by simp [e]⟩
  | false =>
   refine Bool.eq_false_iff.mpr fun z => ?_
   obtain ⟨x, hx, q⟩ := List.any_eq_true.mp z
   have q : x.name = b.name ∧ Qar hs x = true := by simpa using q
   rw [ZS hh.nm hx hm q.1, e] at q
   exact Bool.false_ne_true q.2
 refine ⟨_, rfl, l1, rfl, ⟨_, SqL.of n2⟩, ?_⟩
 refine Z2 (xs := ps.map V.int) (fun i ys H' => H' = H2 ∧ ys = ((ps.take i).filter ldP).map V.int) ⟨rfl, rfl⟩ ?_ (Zr (by simp; omega)) (fun i ys H' _ z => by rw [z.1]; exact SqL.of n2) ?_ ?_
 ·rintro i ys H' ⟨_, rfl⟩
  rw [List.length_map]
  exact Nat.le_trans (List.length_filter_le _ _) (by rw [List.length_take]; omega)
 ·rintro i x ys H' hx ⟨rfl, rfl⟩
  obtain ⟨n, hn, rfl⟩ := intAt hx
  obtain ⟨hnh, hnp⟩ := hpsm n (List.mem_of_getElem? hn)
  obtain ⟨kk, b, hk, rfl⟩ := boxOf n hnh
  rw [isP_at hk] at hnp
  have h2 := hpr b (List.mem_of_getElem? hk) (of_decide_eq_true hnp)
  refine ⟨_, rfl, _, rfl, _, rfl, p, l, A', S, kk, b, hs, rfl, hh2, hk, by omega, s2 _ _ hl, _, rfl, ?_⟩
  have ei := ldP_at hk
  rw [QO _ hn]
  cases e : Qar hs b with
  | true =>
   rw [e] at ei
   refine Qcd ⟨_, rfl, rfl, ?_⟩
   rw [if_pos ei]; simp
  | false =>
   rw [e] at ei
   refine Qbz ⟨rfl, ?_⟩
   rw [if_neg (by rw [ei]; decide)]; simp
 rintro ys H' ⟨rfl, rfl⟩ r hr3
 rw [List.length_map, List.take_length]
 have ew : ps.filter ldP = Zz hs S.boxes := by
  refine Qi1 (hasc.sublist (by rw [← hps]; exact List.filter_sublist.trans List.filter_sublist)) ?_ fun n => ?_
  ·exact hh.asc.sublist (List.filter_sublist.map _)
  ·rw [← hps, List.mem_filter, List.mem_filter, Zz, List.mem_map]
   constructor
   ·rintro ⟨⟨q1, q2⟩, q3⟩
    obtain ⟨kk, b, hk, rfl⟩ := boxOf n q1
    rw [isP_at hk] at q2
    rw [ldP_at hk] at q3
    exact ⟨b, List.mem_filter.mpr ⟨List.mem_of_getElem? hk, by simp [q1, of_decide_eq_true q2, q3]⟩, rfl⟩
   ·rintro ⟨b, hb, rfl⟩
    obtain ⟨q1, q2⟩ := List.mem_filter.mp hb
    have q2 : b.name ∈ hs ∧ b.kind = "pair" ∧ Qar hs b = true := by simpa using q2
    obtain ⟨kk, hk⟩ := List.getElem?_of_mem q1
    rw [isP_at hk, ldP_at hk]
    exact ⟨⟨q2.1, decide_eq_true q2.2.1⟩, q2.2.2⟩
 rw [ew]
 have n3 : (upd H' r (.lst ((Zz hs S.boxes).map V.int))) r = some (.lst ((Zz hs S.boxes).map V.int)) := Qb
 have s3 := s2.trans (Same.new (o := .lst ((Zz hs S.boxes).map V.int)) hr3)
 have nr := s2.free hr3
 have u0 := (Upto.refl hh).same s3
 have ro : r ∉ A'.foot p := hh.out nr
 generalize upd H' r (.lst ((Zz hs S.boxes).map V.int)) = H3 at n3 u0 ⊢
 refine ⟨_, rfl, r, rfl, ⟨_, SqL.of n3⟩, ?_⟩
 refine Zv (K := K) (xs := (Zz hs S.boxes).map V.int) (fun i σ H4 => ∃ v_pairs v_name A4, σ = [some (.ref p), some (.ref l), v_pairs, some (.ref r), v_name] ∧ Upto C H0 p A' H4 A4 { S with boxes := brk ((Zz hs S.boxes).take i) QgD S.boxes } ∧ r ∉ A4.foot p ∧ H4 r = some (.lst ((Zz hs S.boxes).map V.int))) ?_ ?_ ?_ ?_
 ·refine ⟨_, _, A', rfl, ?_, ro, n3⟩
  rw [List.take_zero, QiX]
  exact u0
 ·rintro i σ H4 _ ⟨_, _, A4, rfl, _, _, h4⟩
  exact SqL.of h4
 ·rintro i y σ H4 hy ⟨v1, v2, A4, rfl, u4, o4, h4⟩
  obtain ⟨n, hn, rfl⟩ := intAt hy
  obtain ⟨kk, b, hk, hbn, hf, hnot⟩ := Qgs hh.nm hn
  have hnot : n ∉ (Zz hs S.boxes).take i := hnot
  have hwb : b.name ∈ hs ∧ b.kind = "pair" ∧ Qar hs b = true := by simpa using hf
  subst hbn
  have h2 := hpr b (List.mem_of_getElem? hk) hwb.2.1
  have hk4 : (brk ((Zz hs S.boxes).take i) QgD S.boxes)[kk]? = some b := by rw [Qe7 hk, if_neg hnot]
  refine ⟨_, rfl, p, A4.dx, _, rfl, u4.hh.ob, Ql, _, rfl, p, A4, _, kk, b, 0, .non, .non, rfl, u4.hh, hk4, by omega, rfl, (fun n' e => by cases e), fun A5 H5 hh5 fr5 tu5 gr5 => ?_⟩
  have hk5 : (Zy (brk ((Zz hs S.boxes).take i) QgD S.boxes) kk 0 .non)[kk]? = some { b with row := b.row.set 0 .non } := by rw [Qcy, hk4]; simp
  have h4' := fr5 _ _ h4 o4
  have o4' := gr5.out h4 o4
  refine ⟨_, rfl, p, A5.dx, _, rfl, hh5.ob, Ql, _, rfl, p, A5, _, kk, { b with row := b.row.set 0 .non }, 1, .non, .non, rfl, hh5, hk5, by show 1 < (b.row.set 0 .non).length; rw [List.length_set]; omega, rfl, (fun n' e => by cases e), fun A6 H6 hh6 fr6 tu6 gr6 => ?_⟩
  have e5 : HS.put (HS.put { S with boxes := brk ((Zz hs S.boxes).take i) QgD S.boxes } kk 0 .non) kk 1 .non = { S with boxes := brk ((Zz hs S.boxes).take (i + 1)) QgD S.boxes } := by
   show HS.mk _ _ _ (Zy (Zy (brk ((Zz hs S.boxes).take i) QgD S.boxes) _ _ _) _ _ _) _ _ = _
   rw [QjK hh.nm hk hnot, Qab hn]
   rfl
  rw [e5] at hh6
  exact ⟨_, _, A6, rfl, (u4.step hh5 fr5 tu5 gr5).step hh6 fr6 tu6 gr6, gr6.out h4' o4', fr6 _ _ h4' o4'⟩
 ·rintro σ H4 ⟨v1, v2, A4, rfl, u4, o4, h4⟩
  rw [List.length_map, List.take_length] at u4
  exact ⟨_, rfl, k A4 H4 r u4 nr o4 h4⟩
end
theorem QkI {b : Bool} {A B : Prop} (hAB : b = true → B → A) (h : B) : if b = true then A else B := by
 cases b with
 | true => exact Qcd (hAB rfl h)
 | false => exact Qbz h
theorem four {α : Type} {l : List α} (h : l.length = 4) : ∃ a b c d, l = [a, b, c, d] := by
 match l, h with
 | [a, b, c, d], _ => exact ⟨a, b, c, d, rfl⟩
theorem Qkf {hs : List Int} {S : HS} (hq : S.queues.length = 4) (ht : S.told.length = 4) :
  Qak hs S 4 = { S with queues := S.queues.map (·.filter fun n => decide (n ∈ hs)), told := List.zipWith (fun t q => t ++ q.filter fun n => !decide (n ∈ hs)) S.told S.queues } := by
 obtain ⟨room, slots, last, boxes, queues, told⟩ := S
 obtain ⟨q0, q1, q2, q3, rfl⟩ := four hq
 obtain ⟨t0, t1, t2, t3, rfl⟩ := four ht
 rfl
theorem QfO {hs : List Int} {S S' : HS} (h : S'.queues = S.queues) : ∀ i, Qx hs S' i = Qx hs S i
 | 0 => rfl
 | i + 1 => by
  show Qx hs S' i ++ _ = Qx hs S i ++ _
  rw [QfO h i, h]
section
variable {C : Addr} {H H1 : Hp} {p l : Addr} {A A1 : HA} {S1 : HS} {o o' : HO} {vs : List V}
theorem Upto.mine (u : Upto C H p A H1 A1 S1) (n : H l = none) (m : l ∉ A1.foot p) (hl : H1 l = some (.lst vs)) : Upto C H p A (upd H1 l o) A1 S1 where
 hh := u.hh.keep (fun b hb => Qf fun e => m (e ▸ hb)) (Tups.upd hl (by intro xs z; cases z))
 fr := fun b o' e nb => by rw [Qf (Qd e n)]; exact u.fr b o' e nb
 tu := fun b xs e => by rw [Qf (Qd e n)]; exact u.tu b xs e
 gr := u.gr
end
theorem Upto.back {C : Addr} {H H1 : Hp} {p b : Addr} {A A1 : HA} {S1 : HS} (u : Upto C H p A H1 A1 S1) (h : b ∈ A1.foot p ∨ H1 b = none) : b ∈ A.foot p ∨ H b = none := by
 rcases h with z | z
 ·exact u.gr b z
 ·by_cases m : b ∈ A.foot p
  ·exact .inl m
  ·right
   cases e : H b with
   | none => rfl
   | some o => rw [u.fr b o e m] at z; cases z
theorem QdP {hs : List Int} {S : HS} (h : ∀ xs ∈ S.queues, xs.length ≤ 900) : ∀ i, (Qx hs S i).length ≤ 900 * i
 | 0 => Nat.le_refl _
 | i + 1 => by
  have ih := QdP (hs := hs) h i
  have hq : (S.queues.getD i []).length ≤ 900 := by
   rw [List.getD_eq_getElem?_getD]
   cases e : S.queues[i]? with
   | none => simp
   | some xs => exact h xs (List.mem_of_getElem? e)
  have hf := List.length_filter_le (fun n => !decide (n ∈ hs)) (S.queues.getD i [])
  show (Qx hs S i ++ _).length ≤ _
  rw [List.length_append, List.length_map]
  omega
theorem HS.Ok.held {S : HS} {b0 : Option Int} (ok : S.Ok) (hb : ∀ n, b0 = some n → n ∈ names S) {n : Int} (h : QcS S b0 n) : n ∈ names S := by
 cases h with
 | slot h => exact ok.slot _ h n rfl
 | told h h2 => exact ok.told _ h n h2
 | bes h => exact hb n h
 | plain h1 h2 h3 h4 => exact ok.row _ h1 _ h4 n rfl
 | pairN h1 h2 h3 h4 h5 h6 => exact ok.row _ h1 _ (List.mem_of_getElem? h6) n rfl
 | pairK h1 h2 h3 h4 h5 h6 => exact ok.row _ h1 _ (List.mem_of_getElem? h6) n rfl
theorem Qcu {ns : List Int} {f : List T → List T} {bs : List Box} {b : Box} (h : b ∈ brk ns f bs) : ∃ x ∈ bs, b = (if x.name ∈ ns then { x with row := f x.row } else x) := by
 obtain ⟨x, hx, e⟩ := List.mem_map.mp h
 exact ⟨x, hx, e.symm⟩
theorem Qer (r : List T) : (loose r).length = r.length := List.length_set
theorem Qjr (r : List T) : (QgD r).length = r.length := by simp [QgD]
theorem Qjy {ns : List Int} {r : List T} {t : T} (h : ∀ t ∈ r, t.In ns) (ht : t ∈ loose r) : t.In ns := by
 rcases List.mem_or_eq_of_mem_set ht with z | z
 ·exact h t z
 ·subst z; intro n e; cases e
theorem HS.loosened_eq {S : HS} {hA : List Int} (q : S.OkQ) : S.loosened hA = { S with boxes := brk (Q3 hA S.boxes) loose S.boxes, queues := S.queues.map (·.filter fun n => decide (n ∈ hA)), told := List.zipWith (fun t q => t ++ q.filter fun n => !decide (n ∈ hA)) S.told S.queues } :=
 Qkf (S := { S with boxes := brk (Q3 hA S.boxes) loose S.boxes }) q.q4 q.t4
theorem Qi8 {hA : List Int} {ts qs : List (List Int)} {xs : List Int} (h : xs ∈ List.zipWith (fun t q => t ++ q.filter fun n => !decide (n ∈ hA)) ts qs) : ∀ n ∈ xs, (∃ t ∈ ts, n ∈ t) ∨ ∃ q ∈ qs, n ∈ q ∧ n ∉ hA := by
 obtain ⟨i, hi⟩ := List.getElem?_of_mem h
 obtain ⟨t, q, ht, hq, e⟩ := List.getElem?_zipWith_eq_some.mp hi
 intro n hn
 rw [← e] at hn
 rcases List.mem_append.mp hn with z | z
 ·exact .inl ⟨t, List.mem_of_getElem? ht, z⟩
 ·obtain ⟨z1, z2⟩ := List.mem_filter.mp z
  exact .inr ⟨q, List.mem_of_getElem? hq, z1, by simpa using z2⟩
theorem HS.OkW.loosened {S : HS} {hA : List Int} (w : S.OkW) : (S.loosened hA).Ok ∧ names (S.loosened hA) = names S ∧ (S.loosened hA).boxes = brk (Q3 hA S.boxes) loose S.boxes ∧ (S.loosened hA).slots = S.slots := by
 rw [HS.loosened_eq w.q]
 have hn : names { S with boxes := brk (Q3 hA S.boxes) loose S.boxes, queues := S.queues.map (·.filter fun n => decide (n ∈ hA)), told := List.zipWith (fun t q => t ++ q.filter fun n => !decide (n ∈ hA)) S.told S.queues } = names S := QdN _ _ _
 refine ⟨⟨fun b hb t ht => ?_, fun b hb hk => ?_, fun t ht => ?_, fun xs hx n hn' => ?_, ?_, fun b hb => ?_⟩, hn, rfl, rfl⟩
 ·rw [hn]
  obtain ⟨x, hx, rfl⟩ := Qcu hb
  by_cases e : x.name ∈ Q3 hA S.boxes
  ·rw [if_pos e] at ht
   exact Qjy (w.ok.row x hx) ht
  ·rw [if_neg e] at ht
   exact w.ok.row x hx t ht
 ·obtain ⟨x, hx, rfl⟩ := Qcu hb
  by_cases e : x.name ∈ Q3 hA S.boxes
  ·rw [if_pos e] at hk ⊢
   exact (Qer x.row).trans (w.ok.pair x hx hk)
  ·rw [if_neg e] at hk ⊢
   exact w.ok.pair x hx hk
 ·rw [hn]; exact w.ok.slot t ht
 ·rw [hn]
  rcases Qi8 hx n hn' with ⟨t, ht, m⟩ | ⟨q, hq, m, _⟩
  ·exact w.ok.told t ht n m
  ·exact w.q.nm q hq n m
 ·show (brk _ _ _).length ≤ 900
  rw [brk, List.length_map]; exact w.ok.few
 ·obtain ⟨x, hx, rfl⟩ := Qcu hb
  by_cases e : x.name ∈ Q3 hA S.boxes
  ·rw [if_pos e]
   show (loose x.row).length ≤ 900
   rw [Qer]; exact w.ok.eight x hx
  ·rw [if_neg e]; exact w.ok.eight x hx
theorem Qi4 {S : HS} {bs : List Box} (q : S.OkQ) (h : bs.map (·.name) = names S) : HS.OkQ { S with boxes := bs } := ⟨q.q4, q.t4, q.un, fun xs hx n hn => by show n ∈ bs.map (·.name); rw [h]; exact q.nm xs hx n hn, q.few⟩
theorem Qe9 {H : Hp} {ws : List (Nat × Int)} {as : List Addr} {a : Addr} {x : Nat × Int} (h : Paired (fun (x : Nat × Int) a => H a = some (.tup [.int (x.1 : Int), .int x.2])) ws as) (e : H a = some (.tup [.int (x.1 : Int), .int x.2])) :
  Paired (fun (x : Nat × Int) a => H a = some (.tup [.int (x.1 : Int), .int x.2])) (ws ++ [x]) (as ++ [a]) := Qci h (.cons e .nil)
theorem Zx {H H' : Hp} {ws : List (Nat × Int)} {as : List Addr} (t : Tups H H') (h : Paired (fun (x : Nat × Int) a => H a = some (.tup [.int (x.1 : Int), .int x.2])) ws as) : Paired (fun (x : Nat × Int) a => H' a = some (.tup [.int (x.1 : Int), .int x.2])) ws as := QE (fun _ _ _ _ z => t _ _ z) h
theorem QhF (S : HS) (g : Nat) (a b c d : List Int) : (S.tell g a b).tell g c d = S.tell g c d := by simp [HS.tell]
theorem QhG {S : HS} {g : Nat} {a b : List Int} (h1 : S.queues[g]? = some a) (h2 : S.told[g]? = some b) : S.tell g a b = S := by
 unfold HS.tell; rw [QjX h1, QjX h2]
section
variable {C CS : Addr}
theorem Qdz {f : Addr} (F : Fun K "tell_unheld" "tell_unheld" QaC f fd) (T : TX K mg C) (M1_ : MethOk P w K mg base C n "waiting" ["self", "guard"] (QdT C) [[]])
  (M2_ : MethOk P w K mg base C n "tell" ["self", "guard", "name"] (QjR C) [[]]) :
  FnOk P w K mg base CX0 (n + 1) f fd ["house", "held"] (Qdb C) := by
 refine F.ok ZH (by rintro _ _ _ _ ⟨_, _, _, _, _, rfl, _⟩; rfl) fun _ _ _ s H vs Q E hr h => ?_
 obtain ⟨p, l, A', S, hs, rfl, hh, hl, hout, hQ, k⟩ := h
 have hu := QC hr
 refine ⟨_, (Qc (Qq (i := 2) ZH.nd rfl (Or.inl rfl) (ZR Qe))
  (Qc (Za PassesOwn.never rfl (Zb (by rfl) T.g_range (Qa (Qy Qt (by rfl) T.g_len PySem.boot_len (Qa (Qw (pv 0) rfl) Qe)) Qe)) (QS (i := 3) ZH.nd rfl (Or.inl rfl))
  (Qh (Za PassesOwn.never rfl (QR (qm M1_ (pv 0) T.cl hr (Qa (pv 3) Qe))) (QS (i := 4) ZH.nd rfl (Or.inl rfl))
  (Qh (QZ (Qp QaN (pv 4) (pv 1) rfl) (Qc (Qk (qm M2_ (pv 0) T.cl hr (Qa (pv 3) (Qa (pv 4) Qe))))
  (Qh (Qk (QcF PySem.F.plainAttrs_list PySem.F.slot_list_append PySem.F.type_list_append Qaf (pv 2) (Qa (Qan (Qa (pv 3) (Qa (pv 4) Qe))) Qe))))) Qn)))))
  (Qh (Qs (pv 2))))), ?_⟩
 refine ⟨by decide, fun wl hwl => ?_⟩
 have u0 : Upto C H p A' (upd H wl (.lst [])) A' S := (Upto.refl hh).new hwl
 have w0 : (upd H wl (.lst [])) wl = some (.lst []) := Qb
 generalize upd H wl (.lst []) = H1 at u0 w0 ⊢
 have ro : wl ∉ A'.foot p := hh.out hwl
 have e4 : (A'.tl.map V.ref).length = 4 := by rw [List.length_map, ← pr_len hh.tl]; exact hQ.t4
 refine ⟨_, rfl, p, C, A'.dx, _, _, rfl, u0.hh.ob, T.cl, T.n_told, Qc2, A'.td, _, rfl, .inl (SqL.of u0.hh.td), ?_⟩
 rw [e4]
 refine ⟨4, rfl, by decide, by decide, ?_⟩
 refine QaI (lo := 0) (n := 4) (fun i σ H4 => ∃ v_guard v_name A4 as, σ = [some (.ref p), some (.ref l), some (.ref wl), v_guard, v_name] ∧ Upto C H p A' H4 A4 (Qak hs S i) ∧ wl ∉ A4.foot p ∧ Qbn H4 wl (Qx hs S i) as) ?_ ?_ ?_
 ·exact ⟨_, _, A', [], rfl, u0, ro, w0, .nil⟩
 ·rintro i σ H4 hi ⟨v1, v2, A4, as, rfl, u4, o4, hw4, hp4⟩
  have e0 : (0 : Int) + (i : Int) = (i : Int) := Int.zero_add _
  rw [e0]
  obtain ⟨xs, hxs⟩ : ∃ xs, S.queues[i]? = some xs := ⟨S.queues[i]'(by have := hQ.q4; omega), List.getElem?_eq_getElem _⟩
  obtain ⟨ys, hys⟩ : ∃ ys, S.told[i]? = some ys := ⟨S.told[i]'(by have := hQ.t4; omega), List.getElem?_eq_getElem _⟩
  obtain ⟨rq, rt⟩ := QdR hs S i i (Nat.le_refl _)
  rw [hxs] at rq
  rw [hys] at rt
  have hxm := List.mem_of_getElem? hxs
  have hnd := hQ.un xs hxm
  have hfew := hQ.few i xs ys hxs hys
  refine ⟨_, rfl, p, A4.dx, _, rfl, u4.hh.ob, Ql, _, rfl, p, A4, _, i, xs, rfl, u4.hh, hi, rq, fun ql hql => ⟨ql, rfl, ⟨_, SqL.of Qb⟩, ?_⟩⟩
  have qo : ql ∉ A4.foot p := u4.hh.out hql
  have qw : ql ≠ wl := (Qd hw4 hql).symm
  have u5 := u4.new (o := .lst (xs.map V.int)) hql
  have q5 : (upd H4 ql (.lst (xs.map V.int))) ql = some (.lst (xs.map V.int)) := Qb
  have hw5 := Zt (o := .lst (xs.map V.int)) hw4 hql
  have hp5 := Zx (Tups.new (o := .lst (xs.map V.int)) hql) hp4
  generalize upd H4 ql (.lst (xs.map V.int)) = H5 at u5 q5 hw5 hp5 ⊢
  have qlen : (Qak hs S i).queues.length > i ∧ (Qak hs S i).told.length > i := ⟨(List.getElem?_eq_some_iff.mp rq).1, (List.getElem?_eq_some_iff.mp rt).1⟩
  refine Zv (K := K) (xs := xs.map V.int) (fun j σ H6 => ∃ v_name A6 as, σ = [some (.ref p), some (.ref l), some (.ref wl), some (.int (i : Int)), v_name] ∧
   Upto C H p A' H6 A6 ((Qak hs S i).tell i ((xs.take j).filter (fun n => decide (n ∈ hs)) ++ xs.drop j) (ys ++ (xs.take j).filter fun n => !decide (n ∈ hs))) ∧ wl ∉ A6.foot p ∧ ql ∉ A6.foot p ∧ H6 ql = some (.lst (xs.map V.int)) ∧
   Qbn H6 wl (Qx hs S i ++ ((xs.take j).filter fun n => !decide (n ∈ hs)).map fun n => (i, n)) as) ?_ ?_ ?_ ?_
  ·refine ⟨_, A4, as, rfl, ?_, o4, qo, q5, ?_, ?_⟩
   ·have e : (Qak hs S i).tell i ((xs.take 0).filter (fun n => decide (n ∈ hs)) ++ xs.drop 0) (ys ++ (xs.take 0).filter fun n => !decide (n ∈ hs)) = Qak hs S i := by simpa using QhG rq rt
    rw [e]; exact u5
   ·exact hw5
   ·simpa using hp5
  ·rintro j σ H6 _ ⟨_, A6, as, rfl, _, _, _, h6, _⟩
   exact SqL.of h6
  ·rintro j y σ H6 hy ⟨v3, A6, as6, rfl, u6, o6, qo6, q6, hw6, hp6⟩
   obtain ⟨n, hn, rfl⟩ := intAt hy
   obtain ⟨hl6, lo6⟩ := u6.keep hl hout
   refine ⟨_, rfl, _, rfl, l, _, rfl, .inl (SqL.of hl6), rfl, QbT hs, _, rfl, ?_⟩
   show if (!inV (.int n) (hs.map V.int)) = true then _ else _
   rw [QcL]
   by_cases e : n ∈ hs
   ·rw [decide_eq_true e]
    refine Qbz ⟨_, A6, as6, rfl, ?_, o6, qo6, q6, hw6, ?_⟩
    ·rw [QO _ hn, QO _ hn]
     have e1 : (xs.take j).filter (fun n => decide (n ∈ hs)) ++ (if decide (n ∈ hs) = true then [n] else []) ++ xs.drop (j + 1) = (xs.take j).filter (fun n => decide (n ∈ hs)) ++ xs.drop j := by rw [QkN hn]; simp [e]
     have e2 : (xs.take j).filter (fun n => !decide (n ∈ hs)) ++ (if (!decide (n ∈ hs)) = true then [n] else []) = (xs.take j).filter (fun n => !decide (n ∈ hs)) := by simp [e]
     rw [e1, e2]; exact u6
    ·rw [QO _ hn]
     have e2 : (xs.take j).filter (fun n => !decide (n ∈ hs)) ++ (if (!decide (n ∈ hs)) = true then [n] else []) = (xs.take j).filter (fun n => !decide (n ∈ hs)) := by simp [e]
     rw [e2]; exact hp6
   ·rw [decide_eq_false e]
    obtain ⟨mm, me⟩ := Qjc hnd hn fun n => decide (n ∈ hs)
    refine Qcd ⟨_, rfl, p, A6.dx, _, rfl, u6.hh.ob, Ql, _, rfl, _, rfl, p, A6, _, i, _, _, n, rfl, u6.hh, by show ((Qak hs S i).queues.set i _)[i]? = _; rw [List.getElem?_set_self qlen.1], by show ((Qak hs S i).told.set i _)[i]? = _; rw [List.getElem?_set_self qlen.2], mm, ?_, fun A7 H7 hh7 fr7 tu7 gr7 => ?_⟩
    ·have h1 := List.length_filter_le (fun n => !decide (n ∈ hs)) (xs.take j)
     have h2 : (xs.take j).length ≤ xs.length := by rw [List.length_take]; omega
     rw [List.length_append]; omega
    rw [QhF, me] at hh7
    have u7 := u6.step hh7 fr7 tu7 gr7
    have q7 := fr7 _ _ q6 qo6
    have qo7 := gr7.out q6 qo6
    have hw7 := fr7 _ _ hw6 o6
    have o7 := gr7.out hw6 o6
    have hp7 := Zx tu7 hp6
    refine ⟨_, rfl, .inl ⟨rfl, _, SqL.of hw7⟩, _, rfl, _, rfl, zl, fun tp htp => ⟨wl, _, _, rfl, rfl, Zt hw7 htp, ?_, ?_⟩⟩
    ·have h0 := pr_len hp7
     have h1 := QdP (hs := hs) (S := S) (fun zs hz => by
      obtain ⟨g, hg⟩ := List.getElem?_of_mem hz
      have hg4 : g < S.told.length := by have := (List.getElem?_eq_some_iff.mp hg).1; have := hQ.q4; have := hQ.t4; omega
      have := hQ.few g zs _ hg (List.getElem?_eq_getElem hg4)
      omega) i
     have h2 := List.length_filter_le (fun n => !decide (n ∈ hs)) (xs.take j)
     have h3 : (xs.take j).length ≤ xs.length := by rw [List.length_take]; omega
     rw [List.length_append, List.length_map] at h0
     rw [List.length_map, PySem.sizeLine_eq]
     omega
    have u8 := u7.new (o := .tup [.int (i : Int), .int n]) htp
    have hw8 := Zt (o := .tup [.int (i : Int), .int n]) hw7 htp
    have hp8 := Qe9 (x := (i, n)) (Zx (Tups.new (o := .tup [.int (i : Int), .int n]) htp) hp7) Qb
    have q8 := Zt (o := .tup [.int (i : Int), .int n]) q7 htp
    generalize upd H7 tp (.tup [.int (i : Int), .int n]) = H8 at u8 hw8 hp8 q8 ⊢
    refine ⟨_, A7, as6 ++ [tp], rfl, ?_, o7, qo7, by rw [Qf qw]; exact q8, ?_, ?_⟩
    ·rw [QO _ hn, QO _ hn]
     have e1 : (xs.take j).filter (fun n => decide (n ∈ hs)) ++ (if decide (n ∈ hs) = true then [n] else []) ++ xs.drop (j + 1) = (xs.take j).filter (fun n => decide (n ∈ hs)) ++ xs.drop (j + 1) := by simp [e]
     have e2 : ys ++ ((xs.take j).filter (fun n => !decide (n ∈ hs)) ++ (if (!decide (n ∈ hs)) = true then [n] else [])) = ys ++ (xs.take j).filter (fun n => !decide (n ∈ hs)) ++ [n] := by simp [e]
     rw [e1, e2]; exact u8.mine hwl o7 hw8
    ·rw [Qb, List.map_append]; rfl
    ·rw [QO _ hn]
     have e2 : (((xs.take j).filter (fun n => !decide (n ∈ hs)) ++ (if (!decide (n ∈ hs)) = true then [n] else [])).map fun n => (i, n)) = ((xs.take j).filter (fun n => !decide (n ∈ hs))).map (fun n => (i, n)) ++ [(i, n)] := by simp [e]
     rw [e2, ← List.append_assoc]
     exact Zx (Tups.upd hw8 (by intro xs z; cases z)) hp8
  ·rintro σ H6 ⟨v3, A6, as6, rfl, u6, o6, qo6, q6, hw6, hp6⟩
   rw [List.length_map, List.take_length, List.drop_length, List.append_nil, ← Qjd rq rt] at u6
   rw [List.length_map, List.take_length, ← QfN hxs] at hp6
   exact ⟨_, _, A6, as6, rfl, u6, o6, hw6, hp6⟩
 ·rintro σ H4 ⟨v1, v2, A4, as, rfl, u4, o4, hw4⟩
  exact ⟨_, rfl, k A4 H4 wl as u4 hwl o4 hw4⟩
theorem Qhn {f : Addr} {ds : List Value} (F : FunD K "sweep" "sweep" Qea f fd ds) (T : TX K mg C) (M1_ : MethOk P w K mg base C n "check_box" ["self", "name"] (Zu C) [[]])
  (D2_ : DefOk P w K mg base n "living" ["house", "besides"] (QgV C) [[], [.none]])
  (D3_ : DefOk P w K mg base n "break_weak" ["house", "held"] (QdY C) [[]])
  (D4_ : DefOk P w K mg base n "tell_unheld" ["house", "held"] (Qdb C) [[]])
  (D5_ : DefOk P w K mg base n "break_pairs" ["house", "held"] (Qde C) [[]])
  (D6_ : DefOk P w K mg base n "drop_unheld" ["house", "held"] (Qdd C) [[]]) :
  FnOk P w K mg base CX0 (n + 1) f fd ["house", "besides"] (QhP C) := by
 refine F.ok Z4 (by rintro _ _ _ _ ⟨_, _, _, _, rfl, _⟩; rfl) fun _ _ _ s H vs Q E hr h => ?_
 obtain ⟨p, A', S, b0, rfl, hh, hW, hb0, k⟩ := h
 have hu := QC hr
 refine ⟨_, (Qc (QZ (QaL (Qco (pv 1))) (Qh (Qk (qm M1_ (pv 0) T.cl hr (Qa (pv 1) Qe)))) Qn)
  (Qc (Qq (i := 2) Z4.nd rfl (Or.inl rfl) (qc D2_ hr (Qa (pv 0) (Qa (pv 1) Qe))))
  (Qc (Qq (i := 3) Z4.nd rfl (Or.inl rfl) (qc D3_ hr (Qa (pv 0) (Qa (pv 2) Qe))))
  (Qc (Qq (i := 4) Z4.nd rfl (Or.inl rfl) (qc D4_ hr (Qa (pv 0) (Qa (pv 2) Qe))))
  (Qc (Qq (i := 5) Z4.nd rfl (Or.inl rfl) (qc D2_ hr (Qa (pv 0) (Qa (pv 1) Qe))))
  (Qc (Qq (i := 6) Z4.nd rfl (Or.inl rfl) (qc D5_ hr (Qa (pv 0) (Qa (pv 5) Qe))))
  (Qc (Qq (i := 7) Z4.nd rfl (Or.inl rfl) (qc D6_ hr (Qa (pv 0) (Qa (pv 5) Qe))))
  (Qh (Qs (Qan (Qa (pv 7) (Qa (pv 3) (Qa (pv 6) (Qa (pv 4) Qe)))))))))))))), ?_⟩
 refine ⟨_, rfl, _, rfl, QkI (fun hb h => ?_) ?_⟩
 ·cases b0 with
  | none => exact absurd hb (by decide)
  | some n => exact ⟨_, rfl, p, A'.dx, _, rfl, hh.ob, Ql, _, rfl, p, A', S, n, rfl, hh, hb0 n rfl, h⟩
 refine ⟨_, rfl, _, rfl, p, A', S, b0, rfl, hh, hW.ok, hW.few, hb0, fun lA hA H1 s1 nlA hlA asA heA => ?_⟩
 have hh1 := hh.same s1
 have oA : lA ∉ A'.foot p := hh.out nlA
 refine ⟨_, rfl, _, rfl, p, lA, A', S, hA, rfl, hh1, hlA, oA, hW.few, (fun b hb hk => by have := hW.weak b hb hk; omega), fun A2 H2 r2 u2 nr2 or2 hr2 => ?_⟩
 obtain ⟨hl2, lo2⟩ := u2.keep hlA oA
 refine ⟨_, rfl, _, rfl, p, lA, A2, _, hA, rfl, u2.hh, hl2, lo2, Qi4 hW.q (QdN _ _ _), fun A3 H3 r3 as u3 nr3 or3 hr3 => ?_⟩
 obtain ⟨hr2', or2'⟩ := u3.keep hr2 or2
 obtain ⟨ok2, nm2, bx2, sl2⟩ := hW.loosened (hA := hA)
 have few2 : (S.loosened hA).boxes.length < 64 := by rw [bx2, brk, List.length_map]; exact hW.few
 have u3' : Upto C H2 p A2 H3 A3 (S.loosened hA) := u3
 refine ⟨_, rfl, _, rfl, p, A3, S.loosened hA, b0, rfl, u3'.hh, ok2, few2, fun n e => by rw [nm2]; exact hb0 n e, fun lB hB H4 s4 nlB hlB asB heB => ?_⟩
 have u4 := u3'.same s4
 have oB : lB ∉ A3.foot p := u3'.hh.out nlB
 refine ⟨_, rfl, _, rfl, p, lB, A3, S.loosened hA, hB, rfl, u4.hh, hlB, oB, few2, ok2.pair, asB, fun n hn => ok2.held (fun n e => by rw [nm2]; exact hb0 n e) ((heB n).mp hn), fun A5 H5 r5 u5 nr5 or5 hr5 => ?_⟩
 obtain ⟨hl5, lo5⟩ := u5.keep hlB oB
 refine ⟨_, rfl, _, rfl, p, lB, A5, _, hB, rfl, u5.hh, hl5, lo5, by show (brk _ _ _).length < 64; rw [brk, List.length_map]; exact few2, fun A6 H6 r6 u6 nr6 or6 hr6 => ?_⟩
 refine ⟨_, rfl, _, rfl, _, rfl, _, rfl, zl, fun v hv => ?_⟩
 rw [Qhw] at hr6
 have U1 := (Upto.refl hh).same s1
 have U2 := U1.trans u2
 have U3 := U2.trans u3'
 have U4 := U3.same s4
 have U5 := U4.trans u5
 have U6 := U5.trans u6
 have hr3' := hr3.1
 have hr2_4 := s4 _ _ hr2'
 have hr3_4 := s4 _ _ hr3'
 obtain ⟨hr2_5, or2_5⟩ := u5.keep hr2_4 or2'
 obtain ⟨hr3_5, or3_5⟩ := u5.keep hr3_4 or3
 obtain ⟨hr2_6, or2_6⟩ := u6.keep hr2_5 or2_5
 obtain ⟨hr3_6, or3_6⟩ := u6.keep hr3_5 or3_5
 obtain ⟨hr5_6, or5_6⟩ := u6.keep hr5 or5
 have tu7 : Tups H3 (upd H6 v (.tup [.ref r6, .ref r2, .ref r5, .ref r3])) := (Tups.of_same s4).trans (u5.tu.trans (u6.tu.trans (Tups.new hv)))
 refine k A6 _ hA hB _ v r6 r2 r5 r3 as ⟨asA, heA, asB, heB, rfl⟩ (U6.new hv) ⟨Qb, Zt hr6 hv, Zt hr2_6 hv, Zt hr5_6 hv, Zt hr3_6 hv, ?_⟩ (fun b hb => ?_) (fun b hb => ?_) ?_
 ·have := Zx tu7 hr3.2
  rw [QfO rfl] at this
  exact this
 ·simp only [List.mem_cons, List.not_mem_nil, or_false] at hb
  rcases hb with rfl | rfl | rfl | rfl
  ·exact U5.back (.inr nr6)
  ·exact U1.back (.inr nr2)
  ·exact U4.back (.inr nr5)
  ·exact U2.back (.inr nr3)
 ·simp only [List.mem_cons, List.not_mem_nil, or_false] at hb
  rcases hb with rfl | rfl | rfl | rfl
  ·exact or6
  ·exact or2_6
  ·exact or5_6
  ·exact or3_6
 ·have a1 : r6 ≠ r2 := (Qd hr2_5 nr6).symm
  have a2 : r6 ≠ r5 := (Qd hr5 nr6).symm
  have a3 : r6 ≠ r3 := (Qd hr3_5 nr6).symm
  have a4 : r2 ≠ r5 := Qd hr2_4 nr5
  have a5 : r2 ≠ r3 := Qd hr2 nr3
  have a6 : r5 ≠ r3 := (Qd hr3_4 nr5).symm
  simp [a1, a2, a3, a4, a5, a6]
end
def QjT (C : Addr) : Sp := fun vs H Q _ => ∃ (p : Addr) (A : HA) (S : HS), vs = [.ref p] ∧ HouseAt C H p A S ∧ S.boxes.length < 64 ∧ (∀ b ∈ S.boxes, b.row.length ≤ 900) ∧
 ∀ m ak ar H', Same H H' → H' m = some (.tup [.ref ak, .ref ar]) → RecNew H H' ak ar S.boxes → Q (.ref m) H'
section
variable {C CS : Addr}
theorem QeB : QD (Qg Qae) ["house", "kinds", "rows", "name"] (QP ((Qbq (QeR (QeA (QeR (Qo Qae) 2)) 1)))) "at" ["name", "house"] [3, 0] :=
 bsk
theorem Qfp {f : Addr} (F : Fun K "_law_read" "_law_read" Qae f fd) (T : TX K mg C) (M1_ : MethOk P w K mg base C n "names" ["self"] (QdU C) [[]])
  (M2_ : MethOk P w K mg base C n "kind" ["self", "name"] (QfR C) [[]])
  (M3_ : MethOk P w K mg base C n "size" ["self", "name"] (QhR C) [[]])
  (M4_ : MethOk P w K mg base C n "field" ["self", "name", "at"] (QcU C) [[]]) :
  FnOk P w K mg base CX0 (n + 1) f fd ["house"] (QjT C) := by
 refine F.ok Qao (by rintro _ _ _ _ ⟨_, _, _, rfl, _⟩; rfl) fun _ _ _ s H vs Q E hr h => ?_
 obtain ⟨p, A', S, rfl, hh, h64, hrow, k⟩ := h
 have hu := QC hr
 refine ⟨_, (Qc (Qq (i := 1) Qao.nd rfl (Or.inl rfl) Qaq)
  (Qc (Qq (i := 2) Qao.nd rfl (Or.inl rfl) Qaq)
  (Qc (Za PassesOwn.never rfl (QR (qm0 M1_ (pv 0) T.cl hr)) (QS (i := 3) Qao.nd rfl (Or.inr rfl))
  (Qc (Qbh hu (pv 1) (pv 3) (qm M2_ (pv 0) T.cl hr (Qa (pv 3) Qe)) rfl)
  (Qh (Qbh hu (pv 2) (pv 3) (QaZ QeB rfl (Zb (by rfl) T.g_range (Qa (qm M3_ (pv 0) T.cl hr (Qa (pv 3) Qe)) Qe)) (fun _ _ _ _ => QaM) (fun _ _ _ _ => (qm M4_ (pv 2) T.cl hr (Qa (pv 1) (Qa (pv 0) Qe))))) rfl))))
  (Qh (Qs (Qan (Qa (pv 1) (Qa (pv 2) Qe)))))))), ?_⟩
 refine fun ak hak => ?_
 refine fun ar har => ?_
 have hra : ar ≠ ak := fun e => by rw [e, Qb] at har; cases har
 have har0 : H ar = none := (Same.new hak).free har
 have s0 : Same H (upd (upd H ak (.dK [])) ar (.dK [])) := (Same.new hak).trans (Same.new har)
 have ek : (upd (upd H ak (.dK [])) ar (.dK [])) ak = some (.dK []) := Zt Qb har
 have er : (upd (upd H ak (.dK [])) ar (.dK [])) ar = some (.dK []) := Qb
 generalize upd (upd H ak (.dK [])) ar (.dK []) = H0 at s0 ek er ⊢
 have hh0 := hh.same s0
 have nl : (names S).length < 64 := by simpa [names] using h64
 refine ⟨_, rfl, p, A'.dx, _, rfl, hh0.ob, Ql, p, A', S, rfl, hh0, h64, fun l hl => ⟨l, rfl, ⟨_, SqL.of Qb⟩, ?_⟩⟩
 have lk : l ≠ ak := (Qd ek hl).symm
 have la : l ≠ ar := (Qd er hl).symm
 refine Zv (K := K) (xs := (names S).map V.int) (fun i σ H' => ∃ v_name, σ = [some (.ref p), some (.ref ak), some (.ref ar), v_name] ∧ Same H H' ∧ H' l = some (.lst ((names S).map V.int)) ∧ RecNew H H' ak ar (S.boxes.take i)) ?_ ?_ ?_ ?_
 ·refine ⟨_, rfl, s0.trans (Same.new hl), Qb, [], Zt ek hl, Zt er hl, .nil, by simp [hra.symm], ?_⟩
  intro b hb
  have hb : b = ak ∨ b = ar := by simpa using hb
  rcases hb with rfl | rfl
  ·exact hak
  ·exact har0
 ·rintro i σ H1 _ ⟨_, rfl, _, h1, _⟩
  exact SqL.of h1
 ·rintro i y σ H1 hy ⟨v1, rfl, s1, hl1, hR⟩
  obtain ⟨b, hb, rfl⟩ := Qj9 hy
  have hlt := (List.getElem?_eq_some_iff.mp hb).1
  have hh1 := hh.same s1
  have hR0 := hR
  obtain ⟨fl, e1, e2, pf, nd, fr⟩ := hR
  have hlen : (S.boxes.take i).length = i := by rw [List.length_take]; omega
  have hfl := pr_len pf
  have hout : b.name ∉ (S.boxes.take i).map (·.name) := fun z => by
   obtain ⟨j, hj⟩ := List.getElem?_of_mem z
   have hjl := (List.getElem?_eq_some_iff.mp hj).1
   have hji : j < i := by simp at hjl; omega
   rw [List.map_take, List.getElem?_take_of_lt hji] at hj
   have := Qbp hh.nm hj (show (S.boxes.map (·.name))[i]? = some b.name by rw [List.getElem?_map, hb]; rfl)
   omega
  refine ⟨_, rfl, p, A'.dx, _, rfl, hh1.ob, Ql, _, rfl, p, A', S, i, b, rfl, hh1, hb, _, rfl, _, rfl, ak, _, rfl, DPut.k (k := Sum.inl b.name) e1 (by rw [Qr, List.length_map, hlen]; exact QK (by omega)), ?_⟩
  generalize eH2 : upd H1 ak (.dK (QbK (Qr (S.boxes.take i)) (Sum.inl b.name) (.str b.kind))) = H2
  have sH2 : Same H H2 := fun c o e => by rw [← eH2, Qf (Qd e hak)]; exact s1 _ _ e
  have hh2 := hh.same sH2
  have hl2 : H2 l = some (.lst ((names S).map V.int)) := by rw [← eH2, Qf lk]; exact hl1
  refine ⟨_, rfl, p, A'.dx, _, rfl, hh2.ob, Ql, _, rfl, p, A', S, i, b, rfl, hh2, hb, (b.row.length : Int), rfl, by omega, by have := hrow b (List.mem_of_getElem? hb); omega, ?_⟩
  refine Qa6 (lo := 0) (n := ((b.row.length : Int)).toNat) (fun j ys H' => H' = H2 ∧ Ths H2 (b.row.take j) ys) ⟨rfl, .nil⟩ ?_ (Zr (by have := hrow b (List.mem_of_getElem? hb); omega)) ?_ ?_
  ·rintro j ys H' ⟨_, ht⟩
   rw [← pr_len ht, List.length_take]; omega
  ·rintro j ys H' hj ⟨rfl, ht⟩
   dsimp only [Qfc]
   have e0 : (0 : Int) + (j : Int) = (j : Int) := Int.zero_add _
   rw [e0]
   have hjr : j < b.row.length := by omega
   refine Qcd ⟨_, rfl, p, A'.dx, _, rfl, hh2.ob, Ql, _, rfl, _, rfl, p, A', S, i, b, j, b.row[j], rfl, hh2, hb, List.getElem?_eq_getElem hjr, fun v tv => ⟨rfl, ?_⟩⟩
   rw [Qab (List.getElem?_eq_getElem hjr)]
   exact Qci ht (.cons tv .nil)
  ·rintro ys H4 ⟨rfl, ht⟩ r hr4
   have htt : Ths H4 b.row ys := by
    rw [show ((b.row.length : Int)).toNat = b.row.length by omega, List.take_length] at ht
    exact ht
   have r2 : H4 ar = some (.dK (Qm (S.boxes.take i) fl)) := by rw [← eH2, Qf hra]; exact e2
   have s34 : Same H4 (upd H4 r (.lst ys)) := Same.new hr4
   refine ⟨_, rfl, _, rfl, ar, _, rfl, DPut.k (k := Sum.inl b.name) (s34 _ _ r2) (by rw [Qm, List.length_map, List.length_zip]; exact QK (by omega)), ?_⟩
   refine ⟨_, rfl, fun c o e => ?_, ?_, ?_⟩
   ·rw [Qf (Qd e har0)]; exact s34 _ _ (sH2 _ _ e)
   ·rw [Qf la]; exact s34 _ _ hl2
   ·rw [Qab hb]
    refine hR0.snoc (b := b) (a := r) (Same.refl _) hout eH2.symm s34 ⟨ys, Qb, Ths.keep (Tups.new hr4) htt⟩ hr4 sH2 fun fl' h => ?_
    rw [HO.dK.inj (Option.some.inj (h.symm.trans (s34 _ _ r2)))]
 ·rintro σ H1 ⟨v1, rfl, s1, hl1, hR⟩
  rw [List.length_map, show (names S).length = S.boxes.length by simp [names], List.take_length] at hR
  refine ⟨_, rfl, _, rfl, zl, fun m hm => ?_⟩
  exact k m ak ar _ (s1.trans (Same.new hm)) Qb (hR.same (Same.new hm))
end
theorem Qfn {f g : Int → Bool} (h : ∀ n, g n = !f n) : ∀ xs : List Int, (xs.filter f).length + (xs.filter g).length = xs.length
 | [] => rfl
 | x :: xs => by
  have ih := Qfn h xs
  have e := h x
  cases z : f x
  ·rw [z] at e; simp [z, e]; omega
  ·rw [z] at e; simp [z, e]; omega
section
variable {S S' : HS} {b0 : Option Int} {hA hB : List Int}
theorem QdQ {bs : List Box} (nd : (bs.map (·.name)).Nodup) {b : Box} (hb : b ∈ bs) (h : b.name ∈ Q3 hA bs) : b.kind = "weak" ∧ Qar hA b = true := by
 obtain ⟨x, hx, e⟩ := List.mem_map.mp h
 obtain ⟨h1, h2⟩ := List.mem_filter.mp hx
 have := ZS nd h1 hb e
 subst this
 simpa using h2
theorem QgE {bs : List Box} (nd : (bs.map (·.name)).Nodup) {b : Box} (hb : b ∈ bs) (h : b.name ∈ Zz hB bs) : b.kind = "pair" ∧ Qar hB b = true := by
 obtain ⟨x, hx, e⟩ := List.mem_map.mp h
 obtain ⟨h1, h2⟩ := List.mem_filter.mp hx
 have := ZS nd h1 hb e
 subst this
 have h2 : x.name ∈ hB ∧ x.kind = "pair" ∧ Qar hB x = true := by simpa using h2
 exact h2.2
theorem Qfy (w : S.OkW) (nd : (S.boxes.map (·.name)).Nodup) {b : Box} (hb : b ∈ S.boxes) (hk : b.kind ≠ "weak") : b ∈ (S.loosened hA).boxes := by
 rw [(w.loosened).2.2.1]
 refine List.mem_map.mpr ⟨b, hb, ?_⟩
 rw [if_neg (fun z => hk (QdQ nd hb z).1)]
theorem Qke {hA : List Int} {ts qs : List (List Int)} (hl : ts.length = qs.length) {xs : List Int} (h : xs ∈ ts) {n : Int} (hn : n ∈ xs) : ∃ ys ∈ List.zipWith (fun t q => t ++ q.filter fun n => !decide (n ∈ hA)) ts qs, n ∈ ys := by
 obtain ⟨i, hi⟩ := List.getElem?_of_mem h
 have hlt := (List.getElem?_eq_some_iff.mp hi).1
 have hq : qs[i]? = some (qs[i]'(by omega)) := List.getElem?_eq_getElem (by omega)
 refine ⟨_, List.mem_of_getElem? (List.getElem?_zipWith_eq_some.mpr ⟨xs, _, hi, hq, rfl⟩), List.mem_append_left _ hn⟩
theorem Qfv (w : S.OkW) (nd : (S.boxes.map (·.name)).Nodup) {n : Int} (h : QcS S b0 n) : QcS (S.loosened hA) b0 n := by
 have pk : ("plain" : Str) ≠ "weak" := by decide +kernel
 have qk : ("pair" : Str) ≠ "weak" := by decide +kernel
 induction h with
 | slot h => exact .slot (by rw [(w.loosened).2.2.2]; exact h)
 | told h h2 =>
  obtain ⟨ys, hy, m⟩ := Qke (hA := hA) (w.q.t4.trans w.q.q4.symm) h h2
  exact .told (xs := ys) (by rw [HS.loosened_eq w.q]; exact hy) m
 | bes h => exact .bes h
 | plain hb hk _ hr ih => exact .plain (Qfy w nd hb (by rw [hk]; exact pk)) hk ih hr
 | pairN hb hk _ h0 hn h1 ih => exact .pairN (Qfy w nd hb (by rw [hk]; exact qk)) hk ih h0 hn h1
 | pairK hb hk _ h0 _ h1 ih ih2 => exact .pairK (Qfy w nd hb (by rw [hk]; exact qk)) hk ih h0 ih2 h1
theorem Swept.sub (sw : Swept S b0 hA hB S') (w : S.OkW) (nd : (S.boxes.map (·.name)).Nodup) : ∀ n ∈ hA, n ∈ hB := fun n hn => (sw.b2 n).mpr (Qfv w nd ((sw.a2 n).mp hn))
theorem Swept.boxes (sw : Swept S b0 hA hB S') : S'.boxes = (brk (Zz hB (S.loosened hA).boxes) QgD (S.loosened hA).boxes).filter fun b => decide (b.name ∈ hB) := by rw [sw.e]; rfl
theorem Qgc (p : Int → Bool) (bs : List Box) : (bs.filter fun b => p b.name).map (·.name) = (bs.map (·.name)).filter p := by rw [List.filter_map]; rfl
theorem Swept.names (sw : Swept S b0 hA hB S') (w : S.OkW) : names S' = (LW.names S).filter fun n => decide (n ∈ hB) := by
 show S'.boxes.map (·.name) = _
 rw [sw.boxes, Qgc fun n => decide (n ∈ hB), QdN, ← (w.loosened (hA := hA)).2.1]
 rfl
theorem Swept.inB (sw : Swept S b0 hA hB S') (w : S.OkW) (hb : ∀ n, b0 = some n → n ∈ LW.names S) {n : Int} (h : n ∈ hB) : n ∈ LW.names S' := by
 obtain ⟨ok2, nm2, _, _⟩ := w.loosened (hA := hA)
 rw [sw.names w, List.mem_filter]
 refine ⟨?_, decide_eq_true h⟩
 rw [← nm2]
 exact ok2.held (fun n e => by rw [nm2]; exact hb n e) ((sw.b2 n).mp h)
theorem Qc0 {hs : List Int} {b : Box} {k : Int} (h : Qar hs b = false) (e : b.row[0]? = some (.box k)) : k ∈ hs := by
 unfold Qar at h
 rw [e] at h
 simpa using h
theorem Qjw {l : List T} (h : l.length = 1) {t : T} (ht : t ∈ l) : l[0]? = some t := by
 match l, h with
 | [x], _ => rw [List.mem_singleton.mp ht]; rfl
theorem Qjv {l : List T} (h : l.length = 2) {t : T} (ht : t ∈ l) : l[0]? = some t ∨ l[1]? = some t := by
 match l, h with
 | [x, y], _ =>
  rcases List.mem_cons.mp ht with z | z
  ·rw [z]; exact .inl rfl
  ·rw [List.mem_singleton.mp z]; exact .inr rfl
theorem Qin {l : List T} (h : l.length = 1) : loose l = [.non] := by
 match l, h with
 | [x], _ => rfl
theorem Qif {l : List T} (h : l.length = 2) : QgD l = [.non, .non] := by
 match l, h with
 | [x, y], _ => rfl
theorem Swept.leadsB (sw : Swept S b0 hA hB S') (w : S.OkW) (nd : (S.boxes.map (·.name)).Nodup) {b : Box} (hb : b ∈ S'.boxes) {k : Int} (hk : .box k ∈ b.row) : k ∈ hB := by
 obtain ⟨ok2, nm2, bx2, _⟩ := w.loosened (hA := hA)
 have nd2 : ((S.loosened hA).boxes.map (·.name)).Nodup := by
  have : (S.loosened hA).boxes.map (·.name) = S.boxes.map (·.name) := nm2
  rw [this]; exact nd
 rw [sw.boxes] at hb
 obtain ⟨hb1, hb2⟩ := List.mem_filter.mp hb
 have hb2 : b.name ∈ hB := by simpa using hb2
 obtain ⟨x, hx, e⟩ := Qcu hb1
 by_cases hp : x.name ∈ Zz hB (S.loosened hA).boxes
 ·rw [if_pos hp] at e
  have kd := (QgE nd2 hx hp).1
  have : b.row = [.non, .non] := by rw [e]; exact Qif (ok2.pair x hx kd)
  rw [this] at hk
  simp at hk
 ·rw [if_neg hp] at e
  subst e
  have hh : QcS (S.loosened hA) b0 b.name := (sw.b2 _).mp hb2
  have hx' := hx
  rw [bx2] at hx'
  obtain ⟨y, hy, ey⟩ := Qcu hx'
  by_cases hw : y.name ∈ Q3 hA S.boxes
  ·rw [if_pos hw] at ey
   have : b.row = [.non] := by rw [ey]; exact Qin (w.weak y hy (QdQ nd hy hw).1)
   rw [this] at hk
   simp at hk
  ·rw [if_neg hw] at ey
   subst ey
   rcases w.kd b hy with z | z | z
   ·exact (sw.b2 k).mpr (.plain hx z hh hk)
   ·have h0 := Qjw (w.weak b hy z) hk
    have hl : Qar hA b = false := by
     cases e : Qar hA b with
     | false => rfl
     | true => exact absurd (List.mem_map.mpr ⟨b, List.mem_filter.mpr ⟨hy, by simp [z, e]⟩, rfl⟩) hw
    exact sw.sub w nd k (Qc0 hl h0)
   ·have hl : Qar hB b = false := by
     cases e : Qar hB b with
     | false => rfl
     | true => exact absurd (List.mem_map.mpr ⟨b, List.mem_filter.mpr ⟨hx, by simp [z, e, hb2]⟩, rfl⟩) hp
    have l2 := ok2.pair b hx z
    rcases Qjv l2 hk with q | q
    ·exact Qc0 hl q
    ·obtain ⟨t0, h0⟩ : ∃ t, b.row[0]? = some t := ⟨b.row[0], List.getElem?_eq_getElem (by omega)⟩
     cases t0 with
     | non => exact (sw.b2 k).mpr (.pairN hx z hh h0 (fun k e => by cases e) q)
     | num i => exact (sw.b2 k).mpr (.pairN hx z hh h0 (fun k e => by cases e) q)
     | box j => exact (sw.b2 k).mpr (.pairK hx z hh h0 ((sw.b2 j).mp (Qc0 hl h0)) q)
theorem Swept.slots (sw : Swept S b0 hA hB S') (w : S.OkW) : S'.slots = S.slots := by rw [sw.e]; exact (w.loosened (hA := hA)).2.2.2
theorem Swept.queues (sw : Swept S b0 hA hB S') (w : S.OkW) : S'.queues = S.queues.map (·.filter fun n => decide (n ∈ hA)) := by
 rw [sw.e]; show (S.loosened hA).queues = _; rw [HS.loosened_eq w.q]
theorem Swept.told (sw : Swept S b0 hA hB S') (w : S.OkW) : S'.told = List.zipWith (fun t q => t ++ q.filter fun n => !decide (n ∈ hA)) S.told S.queues := by
 rw [sw.e]; show (S.loosened hA).told = _; rw [HS.loosened_eq w.q]
theorem Swept.box (sw : Swept S b0 hA hB S') (w : S.OkW) {b : Box} (hb : b ∈ S'.boxes) : ∃ y ∈ S.boxes, b.name = y.name ∧ b.kind = y.kind ∧ b.row.length = y.row.length := by
 rw [sw.boxes] at hb
 obtain ⟨x, hx, e⟩ := Qcu (List.mem_filter.mp hb).1
 rw [(w.loosened (hA := hA)).2.2.1] at hx
 obtain ⟨y, hy, ey⟩ := Qcu hx
 refine ⟨y, hy, ?_⟩
 have h1 : x.name = y.name ∧ x.kind = y.kind ∧ x.row.length = y.row.length := by
  rw [ey]; split
  ·exact ⟨rfl, rfl, Qer _⟩
  ·exact ⟨rfl, rfl, rfl⟩
 have h2 : b.name = x.name ∧ b.kind = x.kind ∧ b.row.length = x.row.length := by
  rw [e]; split
  ·exact ⟨rfl, rfl, Qjr _⟩
  ·exact ⟨rfl, rfl, rfl⟩
 exact ⟨h2.1.trans h1.1, h2.2.1.trans h1.2.1, h2.2.2.trans h1.2.2⟩
theorem Swept.okW (sw : Swept S b0 hA hB S') (w : S.OkW) (nd : (S.boxes.map (·.name)).Nodup) (hb : ∀ n, b0 = some n → n ∈ LW.names S) : S'.OkW := by
 have heldB : ∀ {n}, QcS (S.loosened hA) b0 n → n ∈ LW.names S' := fun h => sw.inB w hb ((sw.b2 _).mpr h)
 have hlen : S'.boxes.length ≤ S.boxes.length := by
  have e1 : S'.boxes.length = (LW.names S').length := by simp [LW.names]
  have e2 : S.boxes.length = (LW.names S).length := by simp [LW.names]
  rw [e1, e2, sw.names w]
  exact List.length_filter_le _ _
 have told2 : ∀ {xs n}, xs ∈ S'.told → n ∈ xs → n ∈ LW.names S' := fun hx hn => heldB (.told (by rw [HS.loosened_eq w.q, ← sw.told w]; exact hx) hn)
 refine ⟨⟨fun b m t mt k e => ?_, fun b m hk => ?_, fun t mt k e => ?_, fun xs hx n hn => told2 hx hn, by have := w.ok.few; omega, fun b m => ?_⟩, ⟨?_, ?_, fun xs hx => ?_, fun xs hx n hn => ?_, fun g xs ys hx hy => ?_⟩, by have := w.few; omega, fun b m hk => ?_, fun b m => ?_⟩
 ·subst e
  exact sw.inB w hb (sw.leadsB w nd m mt)
 ·obtain ⟨y, hy, _, e2, e3⟩ := sw.box w m
  rw [e3]; exact w.ok.pair y hy (e2.symm.trans hk)
 ·subst e
  refine heldB (.slot ?_)
  rw [(w.loosened (hA := hA)).2.2.2, ← sw.slots w]; exact mt
 ·obtain ⟨y, hy, _, _, e3⟩ := sw.box w m
  rw [e3]; exact w.ok.eight y hy
 ·rw [sw.queues w, List.length_map]; exact w.q.q4
 ·rw [sw.told w, List.length_zipWith, w.q.q4, w.q.t4]; rfl
 ·rw [sw.queues w] at hx
  obtain ⟨q, hq, rfl⟩ := List.mem_map.mp hx
  exact (w.q.un q hq).sublist List.filter_sublist
 ·rw [sw.queues w] at hx
  obtain ⟨q, hq, rfl⟩ := List.mem_map.mp hx
  have := (List.mem_filter.mp hn).2
  exact sw.inB w hb (sw.sub w nd n (by simpa using this))
 ·rw [sw.queues w, List.getElem?_map] at hx
  rw [sw.told w] at hy
  obtain ⟨t, q, ht, hq, rfl⟩ := List.getElem?_zipWith_eq_some.mp hy
  rw [hq] at hx
  have hx : (q.filter fun n => decide (n ∈ hA)) = xs := by simpa using hx
  subst hx
  have h1 := w.q.few g q t hq ht
  have h2 := Qfn (f := fun n => decide (n ∈ hA)) (g := fun n => !decide (n ∈ hA)) (fun _ => rfl) q
  rw [List.length_append]
  omega
 ·obtain ⟨y, hy, _, e2, e3⟩ := sw.box w m
  rw [e3]; exact w.weak y hy (e2.symm.trans hk)
 ·obtain ⟨y, hy, _, e2, _⟩ := sw.box w m
  rw [e2]; exact w.kd y hy
end
theorem QkG {S : HS} {n : Nat} (hn : names S = QH 1 n) (hb : ∀ b ∈ S.boxes, BOk n b) (ht : ∀ t ∈ S.slots, TOk n t) (told : S.told = e4) (h : n < 64) (q4 : S.queues.length = 4) (hq : ∀ xs ∈ S.queues, xs.Nodup ∧ xs.length ≤ 8 ∧ ∀ m ∈ xs, 1 ≤ m ∧ m ≤ (n : Int)) : S.OkW := by
 have te : ∀ xs ∈ S.told, xs = [] := fun xs hx => by rw [told] at hx; simpa [e4] using hx
 have ok : S.Ok := law_ok hn hb ht te (by omega)
 have hl : S.boxes.length = n := by
  have := congrArg List.length hn
  rw [QJ] at this
  simpa [names] using this
 refine ⟨ok, ⟨q4, by rw [told]; rfl, fun xs hx => (hq xs hx).1, fun xs hx m hm => ?_, fun g xs ys hx hy => ?_⟩, by omega, fun b hb' hk => ?_, fun b hb' => (hb b hb').kd⟩
 ·rw [hn, Qat]
  have := (hq xs hx).2.2 m hm
  omega
 ·have h1 := (hq xs (List.mem_of_getElem? hx)).2.1
  have h2 := te ys (List.mem_of_getElem? hy)
  subst h2
  simp; omega
 ·have := (hb b hb').sz
  rw [hk] at this
  have e : ZQ "weak" (b.row.length : Int) = 1 := by unfold ZQ; rw [if_pos rfl]
  rw [e] at this
  omega
end LW
namespace LW
open PySem L2
def rLl (a : Addr) (al : List Addr) (xss : List (List Int)) : Rt where
 on H F := H a = some (.lst (al.map V.ref)) ∧ Paired (Qhe H) xss al ∧ F = a :: al
 keep := by
  rintro H H' F ⟨h, p, rfl⟩ k im
  exact ⟨(k a (by simp)).trans h, QE (fun x b _ hb z => (k b (by simp [hb])).trans z) p, rfl⟩
 there := by
  rintro H F ⟨h, p, rfl⟩ b hb
  rcases List.mem_cons.mp hb with rfl | hb
  ·exact ⟨_, h⟩
  ·obtain ⟨j, hj⟩ := List.getElem?_of_mem hb
   obtain ⟨x, _, z⟩ := pr_getR p hj
   exact ⟨_, z⟩
section
variable {H : Hp} {W : List Rt} {i g : Nat} {a b l : Addr} {al : List Addr} {xss : List (List Int)} {xs : List Int} {vs : List V}
theorem Own.exp (w : Own H W) (h : W[i]? = some (QfX a xss)) : ∃ al, Own H (W.set i (rLl a al xss)) := by
 obtain ⟨F, G, ⟨al, q1, q2, rfl⟩, nd, dj, th, fin⟩ := w.chg h
 exact ⟨al, fin H _ _ ⟨q1, q2, rfl⟩ nd (fun b hb => .inl hb) (fun _ _ => rfl) (Imm.refl H)⟩
theorem Own.unexp (w : Own H W) (h : W[i]? = some (rLl a al xss)) : Own H (W.set i (QfX a xss)) := by
 obtain ⟨F, G, ⟨q1, q2, rfl⟩, nd, dj, th, fin⟩ := w.chg h
 exact fin H _ _ ⟨al, q1, q2, rfl⟩ nd (fun b hb => .inl hb) (fun _ _ => rfl) (Imm.refl H)
theorem Own.ll (w : Own H W) (h : W[i]? = some (rLl a al xss)) : H a = some (.lst (al.map V.ref)) ∧ Paired (Qhe H) xss al := by
 obtain ⟨F, q1, q2, _⟩ := w.get h
 exact ⟨q1, q2⟩
theorem Own.llPut (w : Own H W) (h : W[i]? = some (rLl a al xss)) (hb : al[g]? = some b) (ys : List Int) : Own (upd H b (.lst (ys.map V.int))) (W.set i (rLl a al (xss.set g ys))) := by
 obtain ⟨F, G, ⟨q1, q2, rfl⟩, nd, dj, th, fin⟩ := w.chg h
 obtain ⟨n1, n2⟩ := List.nodup_cons.mp nd
 have hbm := List.mem_of_getElem? hb
 obtain ⟨xs, hxs, hib⟩ := pr_getR q2 hb
 have hba : b ≠ a := fun e => n1 (e ▸ hbm)
 refine fin _ _ (a :: al) ⟨by rw [Qf hba.symm]; exact q1, ?_, rfl⟩ nd (fun c hc => .inl hc) (fun c hc => Qf fun e => dj b (by simp [hbm]) (e ▸ hc)) (Imm.upd hib trivial)
 refine Qf0 (by rw [List.length_set]; exact pr_len q2) fun k y c hy hc => ?_
 rw [List.getElem?_set] at hy
 by_cases e : g = k
 ·subst e
  rw [if_pos rfl, if_pos (List.getElem?_eq_some_iff.mp hxs).1] at hy
  cases hy
  rw [hb] at hc; cases hc
  exact Qb
 ·rw [if_neg e] at hy
  obtain ⟨c2, h2, z⟩ := Q6 q2 hy
  rw [hc] at h2; cases h2
  have : c ≠ b := fun q => e (Qbp n2 hb (by rw [hc, q]))
  show (upd H b _) c = _
  rw [Qf this]; exact z
theorem Own.lst (w : Own H W) (h : W[i]? = some (Qhl a vs)) : H a = some (.lst vs) := by
 obtain ⟨F, q, _⟩ := w.get h
 exact q
end
section
variable {H : Hp} {W : List Rt} {j m : Nat} {ak ar : Addr} {bs : List Box} {x : Box}
end
def Zi (l : Addr) (ws : List (Nat × Int)) : Rt where
 on H F := ∃ as, Qbn H l ws as ∧ F = [l]
 keep := by
  rintro H H' F ⟨as, ⟨h1, h2⟩, rfl⟩ k im
  exact ⟨as, ⟨(k l (by simp)).trans h1, Zx im.t h2⟩, rfl⟩
 there := by
  rintro H F ⟨as, ⟨h1, h2⟩, rfl⟩ b hb
  obtain rfl : b = l := by simpa using hb
  exact ⟨_, h1⟩
section
variable {H : Hp} {W : List Rt} {i g : Nat} {a b l : Addr} {al : List Addr} {xss : List (List Int)} {xs : List Int} {vs : List V}
theorem Own.wordsAdd {ws : List (Nat × Int)} (w : Own H W) (h : W[i]? = some (Zi a ws)) : ∃ as, Qbn H a ws as ∧ ∀ tp (x : Nat × Int), H tp = some (.tup [.int (x.1 : Int), .int x.2]) → Own (upd H a (.lst (as.map V.ref ++ [.ref tp]))) (W.set i (Zi a (ws ++ [x]))) := by
 obtain ⟨F, G, ⟨as, ⟨q1, q2⟩, rfl⟩, nd, dj, th, fin⟩ := w.chg h
 refine ⟨as, ⟨q1, q2⟩, fun tp x htp => ?_⟩
 have im : Imm H (upd H a (.lst (as.map V.ref ++ [.ref tp]))) := Imm.upd q1 trivial
 exact fin _ _ [a] ⟨as ++ [tp], ⟨by rw [Qb, List.map_append]; rfl, Qe9 (Zx im.t q2) (im.t _ _ htp)⟩, rfl⟩ nd (fun c hc => .inl hc) (fun c hc => Qf fun e => dj a (by simp) (e ▸ hc)) im
end
open Classical in
theorem QeY {α : Type} : ∀ {W : List α} {i : Nat} {r : α}, W[i]? = some r → W.Perm (r :: W.eraseIdx i)
 | x :: W, 0, r, h => by
  have h : x = r := by simpa using h
  subst h
  exact List.Perm.refl _
 | x :: W, i + 1, r, h => by
  have h : W[i]? = some r := by simpa using h
  exact ((QeY h).cons x).trans (List.Perm.swap r x _)
theorem Own.front {H : Hp} {W : List Rt} {i : Nat} {r : Rt} (w : Own H W) (h : W[i]? = some r) : Own H (r :: W.eraseIdx i) := by
 exact w.perm (QeY h)
end LW
namespace L2
open PySem PySem.Spec PyProof.Rows PySem.W
inductive EqG (H : Hp) : Nat → V → V → Bool → Prop
 | flat {n : Nat} {v u : V} (h1 : Qc4 v = true) (h2 : Qc4 u = true) : EqG H n v u (eqV v u)
 | same {n : Nat} {v : V} (hnb : (match v with | .byt _ => false | .flt _ => false | _ => true) = true) : EqG H n v v true
 | tf {n : Nat} {a : Addr} {xs : List V} {u : V} (h1 : H a = some (.tup xs)) (h2 : Qc4 u = true) : EqG H n (.ref a) u false
 | ft {n : Nat} {a : Addr} {xs : List V} {u : V} (h1 : H a = some (.tup xs)) (h2 : Qc4 u = true) : EqG H n u (.ref a) false
 | tup {n : Nat} {a b : Addr} {xs ys : List V} {e : Nat → Bool} (ne : a ≠ b) (ha : H a = some (.tup xs)) (hb : H b = some (.tup ys)) (he : ∀ (j : Nat) (x y : V), xs[j]? = some x → ys[j]? = some y → EqG H n x y (e j)) :
   EqG H (n + 1) (.ref a) (.ref b) ((List.range (min xs.length ys.length)).all e && xs.length == ys.length)
 | lst {n : Nat} {a b : Addr} {xs ys : List V} {e : Nat → Bool} (ne : a ≠ b) (ha : H a = some (.lst xs)) (hb : H b = some (.lst ys)) (he : ∀ (j : Nat) (x y : V), xs[j]? = some x → ys[j]? = some y → EqG H n x y (e j)) :
   EqG H (n + 1) (.ref a) (.ref b) (xs.length == ys.length && (List.range xs.length).all e)
section
variable {X : Cx} {pins : Pn} {σ : St} {H : Hp} {s : Shared}
theorem QfC {xs ys : List V} {its its2 : List Value} {e : Nat → Bool} {A : Around} (r1 : Vals xs its) (r2 : Vals ys its2)
  (he : ∀ (j : Nat) (x y : V) (u v : Value), xs[j]? = some x → ys[j]? = some y → RelV x u → RelV y v → SeqAt.EqAt A s u v (e j)) :
  ∀ j (h1 : j < its.toArray.size) (h2 : j < its2.toArray.size), SeqAt.EqAt A s its.toArray[j] its2.toArray[j] (e j) := fun j h1 h2 => by
 have l1 := r1.length
 have l2 := r2.length
 have h1 : j < its.length := by simpa using h1
 have h2 : j < its2.length := by simpa using h2
 have e1 : xs[j]? = some (xs[j]'(by omega)) := List.getElem?_eq_getElem (by omega)
 have e2 : ys[j]? = some (ys[j]'(by omega)) := List.getElem?_eq_getElem (by omega)
 obtain ⟨u1, q1, s1⟩ := r1.get e1
 obtain ⟨u2, q2, s2⟩ := r2.get e2
 have w1 : its.toArray[j] = u1 := by
  have := List.getElem?_eq_getElem h1
  rw [q1] at this
  simpa using (Option.some.inj this).symm
 have w2 : its2.toArray[j] = u2 := by
  have := List.getElem?_eq_getElem h2
  rw [q2] at this
  simpa using (Option.some.inj this).symm
 rw [w1, w2]
 exact he j _ _ _ _ e1 e2 s1 s2
theorem Qjz {A : Around} {a b : Addr} {xs ys : List V} {e : Nat → Bool} (I : Inv X pins σ H s) (ha : H a = some (.lst xs)) (hb : H b = some (.lst ys)) (hu : A.units < cLine)
  (he : ∀ (j : Nat) (x y : V) (u v : Value), xs[j]? = some x → ys[j]? = some y → RelV x u → RelV y v → SeqAt.EqAt A.in1 s u v (e j)) : SeqAt.RcAt A s (.ref a) (.ref b) (xs.length == ys.length && (List.range xs.length).all e) := by
 obtain ⟨_, its, c, r1, _, e1⟩ := I.lstM ha
 obtain ⟨_, its2, c2, r2, _, e2⟩ := I.lstM hb
 have l1 := r1.length
 have l2 := r2.length
 have p1 : s.heap.IsList a its.toArray := ⟨_, e1, rfl, _, rfl⟩
 have p2 : s.heap.IsList b its2.toArray := ⟨_, e2, rfl, _, rfl⟩
 by_cases hz : xs.length = ys.length
 ·have := SeqAt.RcAt.lists (e := e) p1 p2 (by simp; omega) hu (QfC r1 r2 he)
  rw [show (xs.length == ys.length && (List.range xs.length).all e) = (List.range its.toArray.size).all e by rw [List.size_toArray, ← l1]; simp [hz]]
  exact this
 ·have := SeqAt.RcAt.lists_lengths p1 p2 (by simp; omega) hu
  rw [show (xs.length == ys.length && (List.range xs.length).all e) = false by simp [hz]]
  exact this
theorem EqG.at {n : Nat} {v u : V} {b : Bool} (g : EqG H n v u b) (I : Inv X pins σ H s) : ∀ {A : Around} {v' u' : Value}, RelV v v' → RelV u u' → A.units + n < cLine → SeqAt.EqAt A s v' u' b := by
 induction g with
 | flat h1 h2 => exact fun r1 r2 _ => Qkb r1 r2 h1 h2
 | @same n v hnb =>
  intro A v' u' r1 r2 _
  cases v with
  | non => cases r1; cases r2; exact SeqAt.EqAt.same _
  | bl c => cases r1; cases r2; exact SeqAt.EqAt.same _
  | int i =>
   obtain ⟨t, rfl⟩ := r1
   obtain ⟨t', rfl⟩ := r2
   have := SeqAt.EqAt.int_int (A := A) (s := s) i t i t'
   rwa [beq_self_eq_true] at this
  | str x =>
   obtain ⟨t, rfl⟩ := r1
   obtain ⟨t', rfl⟩ := r2
   have := SeqAt.EqAt.str_str (A := A) (s := s) x t x t'
   rwa [beq_self_eq_true] at this
  | ref a => cases r1; cases r2; exact SeqAt.EqAt.same _
  | ty T => cases r1; cases r2; exact SeqAt.EqAt.same _
  | byt x => cases hnb
  | flt x => cases hnb
 | @tf n a xs u h1 h2 =>
  intro A v' u' r1 r2 hu
  cases r1
  obtain ⟨its, _, p1, _⟩ := I.tuple (SqT.of h1)
  have p1 : s.heap.IsTuple _ its.toArray := p1
  cases u with
  | non => cases r2; exact SeqAt.EqAt.tuple_none p1 (by omega)
  | bl c => cases r2; exact SeqAt.EqAt.tuple_bool c p1 (by omega)
  | int i => obtain ⟨t, rfl⟩ := r2; exact SeqAt.EqAt.tuple_int i t p1 (by omega)
  | str x => obtain ⟨t, rfl⟩ := r2; exact SeqAt.EqAt.tuple_str x t p1 (by omega)
  | ref a => cases h2
  | ty T => cases h2
  | byt x => cases h2
  | flt x => cases h2
 | @ft n a xs u h1 h2 =>
  intro A v' u' r1 r2 hu
  cases r2
  obtain ⟨its, _, p1, _⟩ := I.tuple (SqT.of h1)
  have p1 : s.heap.IsTuple _ its.toArray := p1
  cases u with
  | non => cases r1; exact SeqAt.EqAt.none_tuple p1 (by omega)
  | bl c => cases r1; exact SeqAt.EqAt.bool_tuple c p1 (by omega)
  | int i => obtain ⟨t, rfl⟩ := r1; exact SeqAt.EqAt.int_tuple i t p1 (by omega)
  | str x => obtain ⟨t, rfl⟩ := r1; exact SeqAt.EqAt.str_tuple x t p1 (by omega)
  | ref a => cases h2
  | ty T => cases h2
  | byt x => cases h2
  | flt x => cases h2
 | @tup n a b xs ys e ne ha hb he ih =>
  intro A v' u' r1 r2 hu
  cases r1
  cases r2
  obtain ⟨its, r1, p1, _⟩ := I.tuple (SqT.of ha)
  obtain ⟨its2, r2, p2, _⟩ := I.tuple (SqT.of hb)
  have l1 := r1.length
  have l2 := r2.length
  have := SeqAt.RcAt.tuples (A := A) (e := e) (show s.heap.IsTuple a its.toArray from p1) (show s.heap.IsTuple b its2.toArray from p2) (by omega) (QfC r1 r2 fun j x y u v hx hy rx ry => ih j x y hx hy rx ry (by show A.units + 1 + n < cLine; omega))
  rw [List.size_toArray, List.size_toArray, ← l1, ← l2] at this
  exact SeqAt.EqAt.of_refs ne this
 | @lst n a b xs ys e ne ha hb he ih =>
  intro A v' u' r1 r2 hu
  cases r1
  cases r2
  exact SeqAt.EqAt.of_refs ne (Qjz I ha hb (by omega) fun j x y u v hx hy rx ry => ih j x y hx hy rx ry (by show A.units + 1 + n < cLine; omega))
end
end L2
namespace L2
open PySem PySem.Spec PyProof.Rows PySem.W
section
variable {X : Cx} {pins : Pn} {σ : St} {H : Hp} {s : Shared}
def rNeG : R2 := fun x y H Q => ∃ (a b : Addr) (xs ys : List V) (e : Nat → Bool), x = .ref a ∧ y = .ref b ∧ H a = some (.lst xs) ∧ H b = some (.lst ys) ∧ (∀ (j : Nat) (x y : V), xs[j]? = some x → ys[j]? = some y → EqG H 8 x y (e j)) ∧ Q (.bl (!(xs.length == ys.length && (List.range xs.length).all e))) H
theorem Qj6 (hu : X.A.units + 64 < cLine) : OpR X (compareOp .NotEq) rNeG := by
 intro pins s σ H x y v u Q I rx ry h
 obtain ⟨a, b, xs, ys, e, rfl, rfl, ha, hb, he, q⟩ := h
 cases rx
 cases ry
 obtain ⟨_, its, c, r1, _, e1⟩ := I.lstM ha
 obtain ⟨_, its2, c2, r2, _, e2⟩ := I.lstM hb
 have l1 := r1.length
 have l2 := r2.length
 have p1 : s.heap.IsList a its.toArray := ⟨_, e1, rfl, _, rfl⟩
 have p2 : s.heap.IsList b its2.toArray := ⟨_, e2, rfl, _, rfl⟩
 have hit := QfC (s := s) (A := X.A.in1) (e := e) r1 r2 (fun j x y u v hx hy r1 r2 => (he j x y hx hy).at I r1 r2 (by show X.A.units + 1 + 8 < cLine; omega))
 by_cases hz : xs.length = ys.length
 ·refine SeqAt.RcNeAt.lists (e := e) p1 p2 (by simp; omega) (by omega) hit X.prog X.w X.xe _ ?_
  rw [show (List.range its.toArray.size).all e = (xs.length == ys.length && (List.range xs.length).all e) by rw [List.size_toArray, ← l1]; simp [hz]]
  exact ⟨.bl _, H, I, rfl, q⟩
 ·refine SeqAt.RcNeAt.lists_lengths p1 p2 (by simp; omega) (by omega) X.prog X.w X.xe _ ?_
  rw [show (xs.length == ys.length && (List.range xs.length).all e) = false by simp [hz]] at q
  exact ⟨.bl true, H, I, rfl, q⟩
end
end L2
namespace PySem.Rm
open PySem AutoSeq1 MeetsSeq
theorem rmLoop (q : Addr) (us : Array Value) (c : Nat) (v : Value) (f : Value → Bool) (d : Nat) (hd : d < us.size) (yes : f us[d] = true) (t : Nat) (few : us.size ≤ sizeLine) :
  ∀ i : Nat, d - i = t → i ≤ d → (∀ m (hm : m < us.size), i ≤ m → m < d → f us[m] = false) → Meets (Builtin.«list.remove.loop» ⟨[.ref q, v, rawInt i], []⟩)
   (fun B G z => z.heap.get? q = some { cls := .type "list", dict := none, data := .seq us c, slots := #[] } ∧ (∀ y, y ∈ us → SeqAt.EqAt B.in1 z y v (f y)) ∧ G (.ok (.ret .none)) { z with heap := z.heap.update q (Obj.mapSeq fun xs => xs.eraseIdxIfInBounds d) }) := by
 induction t with
 | zero =>
  intro i e0 le0 none0 P W B G z hz
  obtain ⟨hp, gg, dr, tk, os⟩ := z; obtain ⟨at0, eqs, fin⟩ := hz
  have ed : i = d := by omega
  subst ed
  wp_walk using wpAny_loadPart' at0
  have it : us[((i : Nat) : Int).toNat]? = some us[i] := by simp [hd]
  rw [it]
  refine wpAny_bind (eqs _ (Array.getElem_mem hd) P W _ _ ?_)
  rw [yes]
  have most : (us.eraseIdxIfInBounds i).size ≤ sizeLine + 1 := Nat.le_trans (size_erased us _) (Nat.le_succ_of_le few)
  wp_walk using (wpAny_updateSeq at0 rfl (hz := few) (_hz' := most)), wpAny_loadPart' at0
  simpa using fin
 | succ t ih =>
  intro i e0 le0 none0 P W B G z hz
  obtain ⟨hp, gg, dr, tk, os⟩ := z; obtain ⟨at0, eqs, fin⟩ := hz
  have lt0 : i < us.size := by omega
  wp_walk using wpAny_loadPart' at0
  have it : us[((i : Nat) : Int).toNat]? = some us[i] := by simp [lt0]
  have up : ((i : Int) + 1) = ((i + 1 : Nat) : Int) := by push_cast; rfl
  rw [it]
  refine wpAny_bind (eqs _ (Array.getElem_mem lt0) P W _ _ ?_)
  rw [none0 i lt0 (Nat.le_refl _) (by omega)]
  wp_walk
  rw [up]
  exact ⟨plainId_quiet plain_remove_loop _, codeAny_builtin entry_remove_loop (by
   rw [Around.under_plainId plain_remove_loop _]
   exact ih (i + 1) (by omega) (by omega) (fun m hm h1 h2 => none0 m hm (by omega) h2) P W B G _ ⟨at0, eqs, fin⟩)⟩
theorem rmList (q : Addr) (us : Array Value) (c : Nat) (v : Value) (f : Value → Bool) (d : Nat) (hd : d < us.size) (yes : f us[d] = true) (nope : ∀ m (hm : m < us.size), m < d → f us[m] = false) (few : us.size ≤ sizeLine) :
  Meets (Builtin.«list.remove» ⟨[.ref q, v], []⟩)
   (fun B G z => z.heap.get? q = some { cls := .type "list", dict := none, data := .seq us c, slots := #[] } ∧ (∀ y, y ∈ us → SeqAt.EqAt B.in1 z y v (f y)) ∧ G (.ok (.ret .none)) { z with heap := z.heap.update q (Obj.mapSeq fun xs => xs.eraseIdxIfInBounds d) }) := by
 intro P W B G z hz
 obtain ⟨hp, gg, dr, tk, os⟩ := z; obtain ⟨at0, eqs, fin⟩ := hz
 wp_walk using wpAny_loadPart' at0
 exact ⟨plainId_quiet plain_remove_loop _, codeAny_builtin entry_remove_loop (by
  rw [Around.under_plainId plain_remove_loop _]
  exact rmLoop q us c v f d hd yes _ few 0 rfl (Nat.zero_le _) (fun m hm _ h2 => nope m hm h2) P W B G _ ⟨at0, eqs, fin⟩)⟩
end PySem.Rm
namespace L2
open PySem PySem.Spec PyProof.Rows PySem.W
def eqW (H : Hp) (w : Nat × Int) : Value → Bool
 | .ref a => match H a with
  | some (.tup [.int i, .int m]) => decide (i = (w.1 : Int) ∧ m = w.2)
  | _ => false
 | _ => false
abbrev PrT (H : Hp) (w : Nat × Int) (a : Addr) : Prop := H a = some (.tup [.int (w.1 : Int), .int w.2])
theorem QiI {H : Hp} {w w' : Nat × Int} {a : Addr} (ha : PrT H w' a) : eqW H w (.ref a) = decide (w' = w) := by
 have e : eqW H w (.ref a) = decide ((w'.1 : Int) = (w.1 : Int) ∧ w'.2 = w.2) := by
  dsimp only [eqW]
  rw [show H a = _ from ha]
 rw [e]
 by_cases z : w' = w
 ·subst z; simp
 ·rw [decide_eq_false z, decide_eq_false]
  rintro ⟨h1, h2⟩
  exact z (Prod.ext (by omega) h2)
theorem Qgz : ∀ {as : List Addr} {its : List Value}, Vals (as.map V.ref) its → its = as.map Value.ref
 | [], _, .nil => rfl
 | _ :: _, _, .cons r t => by cases r; rw [Qgz t]; rfl
theorem QgP {H : Hp} {w : Nat × Int} : ∀ {ws : List (Nat × Int)} {as : List Addr}, Paired (PrT H) ws as → (as.map Value.ref).any (eqW H w) = decide (w ∈ ws)
 | _, _, .nil => by simp
 | _, _, .cons h t => by
  rw [List.map_cons, List.any_cons, QiI h, QgP t]
  simp only [List.mem_cons, Bool.decide_or]
  congr 1
  exact decide_eq_decide.mpr ⟨Eq.symm, Eq.symm⟩
section
variable {X : Cx} {pins : Pn} {σ : St} {H : Hp} {s : Shared}
theorem QkC (I : Inv X pins σ H s) {a b : Addr} {w w' : Nat × Int} (ha : PrT H w' a) (hb : PrT H w b) {A : Around} (hu : A.units + 8 < cLine) : SeqAt.EqAt A s (.ref a) (.ref b) (decide (w' = w)) := by
 by_cases e : a = b
 ·subst e
  have z : w' = w := by
   have q := HO.tup.inj (Option.some.inj (ha.symm.trans hb))
   simp only [List.cons.injEq, V.int.injEq] at q
   exact Prod.ext (by omega) q.2.1
  rw [decide_eq_true z]
  exact SeqAt.EqAt.same _
 ·have g : EqG H 1 (.ref a) (.ref b) _ := EqG.tup (n := 0) (e := fun j => if j = 0 then eqV (.int (w'.1 : Int)) (.int (w.1 : Int)) else eqV (.int w'.2) (.int w.2)) e ha hb fun j x y hx hy => by
   match j, hx, hy with
   | 0, hx, hy => cases hx; cases hy; exact .flat rfl rfl
   | 1, hx, hy => cases hx; cases hy; exact .flat rfl rfl
  have q := g.at I (A := A) rfl rfl (by omega)
  have z : ((List.range (min 2 2)).all (fun j => if j = 0 then eqV (.int (w'.1 : Int)) (.int (w.1 : Int)) else eqV (.int w'.2) (.int w.2)) && (2 == 2)) = decide (w' = w) := by
   by_cases z : w' = w
   ·subst z; simp [List.range, List.range.loop, eqV]
   ·rw [decide_eq_false z]
    have : ¬ ((w'.1 : Int) = (w.1 : Int) ∧ w'.2 = w.2) := fun h => z (Prod.ext (by omega) h.2)
    simp [List.range, List.range.loop, eqV]
    intro h1 h2
    exact this ⟨by omega, h2⟩
  rw [← z]
  exact q
def rInT (neg : Bool) : R2 := fun x y H Q => ∃ (b l : Addr) (w : Nat × Int) (ws : List (Nat × Int)) (as : List Addr), x = .ref b ∧ y = .ref l ∧ PrT H w b ∧ H l = some (.lst (as.map V.ref)) ∧ Paired (PrT H) ws as ∧ Q (.bl (if neg then !decide (w ∈ ws) else decide (w ∈ ws))) H
theorem QgK (I : Inv X pins σ H s) {l b : Addr} {w : Nat × Int} {ws : List (Nat × Int)} {as : List Addr} (hb : PrT H w b) (hl : H l = some (.lst (as.map V.ref))) (hp : Paired (PrT H) ws as) {A : Around} (hu : A.units + 16 < cLine) :
  ∃ c, s.heap.get? l = some { cls := .type "list", dict := none, data := .seq (as.map Value.ref).toArray c, slots := #[] } ∧ (as.map Value.ref).length ≤ sizeLine ∧ ∀ y, y ∈ (as.map Value.ref).toArray → SeqAt.EqAt A.in1 s y (.ref b) (eqW H w y) := by
 obtain ⟨z, its, c, r, hlen, e⟩ := I.lstM hl
 have ei := Qgz r
 subst ei
 refine ⟨c, e, by omega, fun y hy => ?_⟩
 obtain ⟨a, ha, rfl⟩ := List.mem_map.mp (List.mem_toArray.mp hy)
 obtain ⟨j, hj⟩ := List.getElem?_of_mem ha
 obtain ⟨w', _, ht⟩ := LW.pr_getR hp hj
 rw [QiI ht]
 exact QkC I ht hb (by show A.units + 1 + 8 < cLine; omega)
theorem op_inT (hu : X.A.units + 64 < cLine) : OpR X (compareOp .In) (rInT false) := by
 intro pins s σ H x y v u Q I rx ry h
 obtain ⟨b, l, w, ws, as, rfl, rfl, hb, hl, hp, q⟩ := h
 cases rx
 cases ry
 obtain ⟨c, e, _, eqs⟩ := QgK I (A := X.A) hb hl hp (by omega)
 refine SeqAt.in_listAt (eqW H w) ⟨_, e, rfl, _, rfl⟩ eqs ⟨.bl _, H, I, rfl, ?_⟩
 rw [show (as.map Value.ref).toArray.any (eqW H w) = (as.map Value.ref).any (eqW H w) by simp, QgP hp]
 exact q
theorem Qf1 (hu : X.A.units + 64 < cLine) : OpR X (compareOp .NotIn) (rInT true) := by
 intro pins s σ H x y v u Q I rx ry h
 obtain ⟨b, l, w, ws, as, rfl, rfl, hb, hl, hp, q⟩ := h
 cases rx
 cases ry
 obtain ⟨c, e, _, eqs⟩ := QgK I (A := X.A) hb hl hp (by omega)
 refine SeqAt.notIn_listAt (eqW H w) ⟨_, e, rfl, _, rfl⟩ eqs ⟨.bl _, H, I, rfl, ?_⟩
 rw [show (as.map Value.ref).toArray.any (eqW H w) = (as.map Value.ref).any (eqW H w) by simp, QgP hp]
 exact q
def Qjl : V → List V → Hp → VK → Prop := fun x vs H Q => ∃ (l b : Addr) (w : Nat × Int) (ws : List (Nat × Int)) (as : List Addr), x = .ref l ∧ vs = [.ref b] ∧ PrT H w b ∧ H l = some (.lst (as.map V.ref)) ∧ Paired (PrT H) ws as ∧ w ∈ ws ∧ Q .non (upd H l (.lst ((as.eraseIdx (ws.idxOf w)).map V.ref)))
theorem QeZ (hu : X.A.units + 64 < cLine) : MtM X "list.remove" Qjl := by
 intro pins s σ H x vs v us Q I rx rv h
 obtain ⟨l, b, w, ws, as, rfl, rfl, hb, hl, hp, hw, q⟩ := h
 cases rx
 obtain ⟨u, rfl, ru⟩ := rv.one
 cases ru
 have hj : ws.idxOf w < ws.length := List.idxOf_lt_length_of_mem hw
 have hlen := LW.pr_len hp
 have at_ : ∀ (m : Nat) (hm : m < (as.map Value.ref).toArray.size), eqW H w (as.map Value.ref).toArray[m] = decide (ws[m]'(by simp at hm; omega) = w) := fun m hm => by
  have hm2 : m < as.length := by simpa using hm
  obtain ⟨w', hw', ht⟩ := LW.pr_getR hp (List.getElem?_eq_getElem hm2)
  have e1 : (as.map Value.ref).toArray[m] = .ref as[m] := by simp
  rw [e1, QiI ht]
  have := (List.getElem?_eq_some_iff.mp hw').2
  rw [this]
 obtain ⟨z, its, c, r, hlz, e⟩ := I.lstM hl
 have ei := Qgz r
 subst ei
 have eqs : ∀ {A : Around}, A.units + 16 < cLine → ∀ y, y ∈ (as.map Value.ref).toArray → SeqAt.EqAt A.in1 s y (.ref b) (eqW H w y) := fun hA => (QgK I hb hl hp hA).choose_spec.2.2
 refine call_meets F.slot_list_remove ⟨_, e, rfl⟩ F.entry_list_remove (F.args_list_remove_2 _ _)
  (PySem.Rm.rmList l (as.map Value.ref).toArray c (.ref b) (eqW H w) (ws.idxOf w) (by simp; omega) ?_ ?_ (by rw [List.size_toArray]; omega)) ⟨e, ?_, ?_⟩
 ·rw [at_]
  exact decide_eq_true (List.getElem_idxOf hj)
 ·intro m hm hlt
  rw [at_]
  have := List.not_of_lt_findIdx hlt
  simpa using this
 ·exact eqs (by omega)
 ·refine ⟨.non, _, I.lset (its' := (as.map Value.ref).eraseIdx (ws.idxOf w)) hl e ?_ (ys := (as.eraseIdx (ws.idxOf w)).map V.ref) ?_ ?_, rfl, q⟩
  ·show (as.map Value.ref).toArray.eraseIdxIfInBounds _ = ((as.map Value.ref).eraseIdx _).toArray
   rw [List.eraseIdxIfInBounds_toArray]
  ·have h2 := r.eraseIdx (ws.idxOf w)
   rw [Zw] at h2
   exact h2
  ·have := List.length_eraseIdx_le (as.map V.ref) (ws.idxOf w)
   rw [Zw] at this
   omega
end
end L2
namespace LW
open PySem L2
section
variable {C : Addr}
def HS.left (S : HS) (g : Nat) (ns : List Int) (n : Int) : HS := { S with queues := S.queues.set g (ns.erase n) }
def QhV (C : Addr) : Sp := fun vs H Q _ => ∃ (p : Addr) (A : HA) (S : HS) (g : Nat) (n : Int) (ns : List Int), vs = [.ref p, .int g, .int n] ∧ HouseAt C H p A S ∧ g < 4 ∧ S.queues[g]? = some ns ∧ n ∈ names S ∧ n ∈ ns ∧ Out C H p A (S.left g ns n) Q .non
theorem Qdw {f : Addr} (F : Fun K "leave" "House.leave" QaA f fd) (T : TX K mg C) (M1_ : MethOk P w K mg base C n "check_guard" ["self", "guard"] (ZP C) [[]])
  (M2_ : MethOk P w K mg base C n "check_box" ["self", "name"] (Zu C) [[]]) :
  FnOk P w K mg base CX0 (n + 1) f fd ["self", "guard", "name"] (QhV C) := by
 refine F.ok Qdo (by rintro _ _ _ _ ⟨_, _, _, _, _, _, rfl, _⟩; rfl) fun _ _ _ s H vs Q E hr h => ?_
 obtain ⟨p, A', S, g, n', ns, rfl, hh, hg, hq, hn, hin, k⟩ := h
 have hu := QC hr
 refine ⟨_, (Qc (Qk (qm M1_ (pv 0) T.cl hr (Qa (pv 1) Qe)))
  (Qc (Qk (qm M2_ (pv 0) T.cl hr (Qa (pv 2) Qe)))
  (Qc (QZ (Qp QaN (pv 2) (QG QI (Qw (pv 0) rfl) (pv 1) (fun _ _ => rfl)) rfl) (Qh Qbg) Qn)
  (Qh (Qk (QcF PySem.F.plainAttrs_list PySem.F.slot_list_remove PySem.F.type_list_remove Qf4 (QG QI (Qw (pv 0) rfl) (pv 1) (fun _ _ => rfl)) (Qa (pv 2) Qe))))))), ?_⟩
 obtain ⟨a, ha, hi⟩ := Q6 hh.ql hq
 have hix : atI (A'.ql.map V.ref) (g : Int) = some (.ref a) := Zh (by rw [List.getElem?_map, ha]; rfl)
 refine ⟨_, rfl, p, A'.dx, _, rfl, hh.ob, Ql, _, rfl, p, g, rfl, by omega, by omega, ?_⟩
 refine ⟨_, rfl, p, A'.dx, _, rfl, hh.ob, Ql, _, rfl, p, A', S, n', rfl, hh, hn, ?_⟩
 refine ⟨_, rfl, _, rfl, p, C, A'.dx, _, _, rfl, hh.ob, T.cl, T.n_queues, Qa2, _, rfl, A'.qs, _, g, .ref a, rfl, rfl, SqL.of hh.qs, hix, a, _, rfl, .inl (SqL.of hi), rfl, QbT ns, _, rfl, QbS ?_ ?_⟩
 ·show (!inV (.int n') (ns.map V.int)) = false
  rw [QcL, decide_eq_true hin]; rfl
 refine ⟨_, rfl, p, C, A'.dx, _, _, rfl, hh.ob, T.cl, T.n_queues, Qa2, _, rfl, A'.qs, _, g, .ref a, rfl, rfl, SqL.of hh.qs, hix, .inl ⟨rfl, _, SqL.of hi⟩, _, rfl, a, ns, n', rfl, rfl, hi, hin, ?_⟩
 exact hh.outOne (by simp [HA.lists, List.mem_of_getElem? ha]) hi (hh.setQueue ha hi) k
def HS.taken (S : HS) (g : Nat) (ns : List Int) (slot : Nat) (n : Int) : HS := { S with told := S.told.set g ns, slots := S.slots.set slot (.box n) }
def QjS (C : Addr) : Sp := fun vs H Q _ => ∃ (p : Addr) (A : HA) (S : HS) (g slot : Nat) (n : Int) (ns : List Int), vs = [.ref p, .int g, .int slot] ∧ HouseAt C H p A S ∧ g < 4 ∧ S.told[g]? = some (n :: ns) ∧ slot < S.slots.length ∧ Out C H p A (S.taken g ns slot n) Q (.int n)
theorem Qeh {f : Addr} {ds : List Value} (F : FunD K "take" "House.take" QaR f fd ds) (T : TX K mg C) (M1_ : MethOk P w K mg base C n "check_guard" ["self", "guard"] (ZP C) [[]])
  (M2_ : MethOk P w K mg base C n "check_slot" ["self", "slot"] (Qav C) [[]])
  (D3_ : DefOk P w K mg base n "box_thing" ["name"] (QbZ) [[]]) :
  FnOk P w K mg base CX0 (n + 1) f fd ["self", "guard", "slot"] (QjS C) := by
 refine F.ok QbC (by rintro _ _ _ _ ⟨_, _, _, _, _, _, _, rfl, _⟩; rfl) fun _ _ _ s H vs Q E hr h => ?_
 obtain ⟨p, A', S, g, slot, n', ns, rfl, hh, hg, hq, hs, k⟩ := h
 have hu := QC hr
 refine ⟨_, (Qc (Qk (qm M1_ (pv 0) T.cl hr (Qa (pv 1) Qe)))
  (Qc (Qk (qm M2_ (pv 0) T.cl hr (Qa (pv 2) Qe)))
  (Qc (QZ (Qp QaJ (Qy Qt (by rfl) T.g_len PySem.boot_len (Qa (QG QI (Qw (pv 0) rfl) (pv 1) (fun _ _ => rfl)) Qe)) Qi (QF _)) (Qh Qbg) Qn)
  (Qc (Qq (i := 3) QbC.nd rfl (Or.inl rfl) (QcF PySem.F.plainAttrs_list PySem.F.slot_list_pop PySem.F.type_list_pop Qg7 (QG QI (Qw (pv 0) rfl) (pv 1) (fun _ _ => rfl)) (Qa Qi Qe)))
  (Qc (Qg1 (qc D3_ hr (Qa (pv 3) Qe)) (Qg3 (Qw (pv 0) rfl) (pv 2) QdF))
  (Qh (Qs (pv 3)))))))), ?_⟩
 obtain ⟨a, ha, hi⟩ := Q6 hh.tl hq
 have hix : atI (A'.tl.map V.ref) (g : Int) = some (.ref a) := Zh (by rw [List.getElem?_map, ha]; rfl)
 refine ⟨_, rfl, p, A'.dx, _, rfl, hh.ob, Ql, _, rfl, p, g, rfl, by omega, by omega, ?_⟩
 refine ⟨_, rfl, p, A'.dx, _, rfl, hh.ob, Ql, _, rfl, p, A', S, slot, rfl, hh, by omega, by omega, ?_⟩
 refine ⟨_, rfl, p, C, A'.dx, _, _, rfl, hh.ob, T.cl, T.n_told, Qc2, _, rfl, A'.td, _, g, .ref a, rfl, rfl, SqL.of hh.td, hix, ?_⟩
 refine ⟨a, _, rfl, .inl (SqL.of hi), rfl, _, rfl, QbS (by simp; omega) ?_⟩
 refine ⟨_, rfl, p, C, A'.dx, _, _, rfl, hh.ob, T.cl, T.n_told, Qc2, _, rfl, A'.td, _, g, .ref a, rfl, rfl, SqL.of hh.td, hix, .inl ⟨rfl, _, SqL.of hi⟩, a, _, 0, 0, .int n', rfl, rfl, hi, by decide, by decide, by simp [seqIndex?], rfl, ?_⟩
 have hm : a ∈ A'.lists := by simp [HA.lists, List.mem_of_getElem? ha]
 have u1 := hh.uptoOne hm hi (hh.setTold (ms := ns) ha hi)
 refine ⟨_, rfl, n', rfl, fun t ht => ?_⟩
 have u2 := u1.new (o := .tup [.str "box", .int n']) ht
 obtain ⟨ws, hw, htw⟩ := u2.hh.sl
 have tv : isT (upd (upd H a (.lst (ns.map V.int))) t (.tup [.str "box", .int n'])) (.box n') (.ref t) := ⟨t, rfl, Qb⟩
 refine ⟨_, rfl, p, C, A'.dx, _, _, rfl, u2.hh.ob, T.cl, T.n_slots, Qb5, _, rfl, A'.sl, ws, slot, slot, rfl, rfl, hw, QfB (by rw [← pr_len htw]; exact hs), _, rfl, ?_⟩
 have v := u2.hh.uptoOne (a := A'.sl) (by simp [HA.lists]) hw (u2.hh.setSlot (j := slot) hw htw tv)
 exact (u2.step v.hh v.fr v.tu v.gr).out k
end
theorem Qc3 : ∀ {xss : List (List Int)} {g : Nat} {xs : List Int}, xss[g]? = some xs → xs.length ≤ xss.flatten.length
 | x :: xss, 0, xs, h => by
  have h : x = xs := by simpa using h
  subst h
  rw [List.flatten_cons, List.length_append]; omega
 | x :: xss, g + 1, xs, h => by
  have := Qc3 (xss := xss) (g := g) (xs := xs) (by simpa using h)
  rw [List.flatten_cons, List.length_append]; omega
theorem QcM {zs : List Int} : ∀ {xss : List (List Int)} {g : Nat} {xs : List Int}, xss[g]? = some xs → (xss.set g zs).flatten.length + xs.length = xss.flatten.length + zs.length
 | x :: xss, 0, xs, h => by
  have h : x = xs := by simpa using h
  subst h
  rw [List.set_cons_zero, List.flatten_cons, List.flatten_cons, List.length_append, List.length_append]; omega
 | x :: xss, g + 1, xs, h => by
  have := QcM (zs := zs) (xss := xss) (g := g) (xs := xs) (by simpa using h)
  rw [List.set_cons_succ, List.flatten_cons, List.flatten_cons, List.length_append, List.length_append]; omega
theorem QiH {S : HS} (h : S.told.flatten.length + S.queues.flatten.length ≤ 900) : ∀ (g : Nat) (xs ys : List Int), S.queues[g]? = some xs → S.told[g]? = some ys → ys.length + xs.length ≤ 900 := fun g xs ys hx hy => by
 have := Qc3 hx
 have := Qc3 hy
 omega
theorem QgR {hA : List Int} : ∀ {ts qs : List (List Int)}, ts.length = qs.length → (List.zipWith (fun t q => t ++ q.filter fun n => !decide (n ∈ hA)) ts qs).flatten.length + (qs.map (·.filter fun n => decide (n ∈ hA))).flatten.length = ts.flatten.length + qs.flatten.length
 | [], [], _ => rfl
 | t :: ts, q :: qs, hl => by
  have ih := QgR (hA := hA) (ts := ts) (qs := qs) (by simpa using hl)
  have h1 := Qfn (f := fun n => decide (n ∈ hA)) (g := fun n => !decide (n ∈ hA)) (fun _ => rfl) q
  simp only [List.zipWith_cons_cons, List.flatten_cons, List.length_append, List.map_cons] at ih ⊢
  omega
structure TurnAt (S : HS) (i : Nat) : Prop where
 ok : S.OkW
 sl : S.slots.length = 4
 few : S.told.flatten.length + S.queues.flatten.length ≤ i
def sel (W : List (Nat × Int)) (g : Nat) : List Int := (W.filter fun w => w.1 == g).map (·.2)
structure WaitAt (S : HS) (W : List (Nat × Int)) : Prop where
 nd : W.Nodup
 lt : ∀ w ∈ W, w.1 < 4
 q : ∀ g, g < 4 → S.queues[g]? = some (sel W g)
theorem Qfg {W : List (Nat × Int)} {g : Nat} {n : Int} : n ∈ sel W g ↔ (g, n) ∈ W := by
 unfold sel
 rw [List.mem_map]
 constructor
 ·rintro ⟨w, hw, rfl⟩
  obtain ⟨h1, h2⟩ := List.mem_filter.mp hw
  have : w.1 = g := by simpa using h2
  rw [← this]; exact h1
 ·exact fun h => ⟨(g, n), List.mem_filter.mpr ⟨h, by simp⟩, rfl⟩
theorem QcV {p : Nat × Int → Bool} {p' : Int → Bool} {g : Nat} {W : List (Nat × Int)} (h : ∀ w ∈ W, w.1 = g → p w = p' w.2) : sel (W.filter p) g = (sel W g).filter p' := by
 unfold sel
 rw [List.filter_map, List.filter_filter, List.filter_filter]
 congr 1
 refine List.filter_congr fun w hw => ?_
 by_cases e : w.1 = g
 ·simp [e, h w hw e]
 ·have z : (w.1 == g) = false := beq_eq_false_iff_ne.mpr e
  simp [z]
theorem sel_nd {W : List (Nat × Int)} (nd : W.Nodup) (g : Nat) : (sel W g).Nodup := by
 unfold sel
 refine List.Pairwise.map _ ?_ (nd.sublist List.filter_sublist |> fun z => List.Pairwise.and_mem.mp z)
 rintro a b ⟨ha, hb, hne⟩ e
 have h1 : a.1 = g := by simpa using (List.mem_filter.mp ha).2
 have h2 : b.1 = g := by simpa using (List.mem_filter.mp hb).2
 exact hne (Prod.ext (h1.trans h2.symm) e)
section
variable {S S' : HS} {i : Nat} {W : List (Nat × Int)}
theorem TurnAt.more (d : TurnAt S i) : TurnAt S (i + 1) := ⟨d.ok, d.sl, by have := d.few; omega⟩
theorem TurnAt.hold {j : Nat} {t : T} (d : TurnAt S i) (ht : t.In (names S)) : TurnAt (S.hold j t) (i + 1) := by
 have w := d.ok
 refine ⟨⟨⟨w.ok.row, w.ok.pair, fun t' h => ?_, w.ok.told, w.ok.few, w.ok.eight⟩, ⟨w.q.q4, w.q.t4, w.q.un, w.q.nm, w.q.few⟩, w.few, w.weak, w.kd⟩, List.length_set.trans d.sl, by have := d.few; exact Nat.le_succ_of_le this⟩
 rcases List.mem_or_eq_of_mem_set h with z | z
 ·exact w.ok.slot t' z
 ·rw [z]; exact ht
theorem TurnAt.watch {g : Nat} {ns : List Int} {n : Int} (d : TurnAt S i) (hi : i ≤ 40) (hq : S.queues[g]? = some ns) (hn : n ∈ names S) (ho : n ∉ ns) : TurnAt (S.watch g ns n) (i + 1) := by
 have w := d.ok
 have hf := QcM (zs := ns ++ [n]) hq
 rw [List.length_append] at hf
 have hf2 := d.few
 have few : (S.watch g ns n).told.flatten.length + (S.watch g ns n).queues.flatten.length ≤ i + 1 := by
  show S.told.flatten.length + (S.queues.set g (ns ++ [n])).flatten.length ≤ i + 1
  simp only [List.length_singleton] at hf
  omega
 have mem : ∀ xs ∈ (S.watch g ns n).queues, xs ∈ S.queues ∨ xs = ns ++ [n] := fun xs h => List.mem_or_eq_of_mem_set h
 refine ⟨⟨⟨w.ok.row, w.ok.pair, w.ok.slot, w.ok.told, w.ok.few, w.ok.eight⟩, ⟨List.length_set.trans w.q.q4, w.q.t4, fun xs h => ?_, fun xs h m hm => ?_, QiH (by omega)⟩, w.few, w.weak, w.kd⟩, d.sl, few⟩
 ·rcases mem xs h with z | z
  ·exact w.q.un xs z
  ·rw [z]
   exact List.nodup_append.mpr ⟨w.q.un ns (List.mem_of_getElem? hq), by simp, fun a ha b hb e => ho (by rw [← List.mem_singleton.mp hb, ← e]; exact ha)⟩
 ·rcases mem xs h with z | z
  ·exact w.q.nm xs z m hm
  ·rw [z] at hm
   rcases List.mem_append.mp hm with q | q
   ·exact w.q.nm ns (List.mem_of_getElem? hq) m q
   ·rw [List.mem_singleton.mp q]; exact hn
theorem TurnAt.left {g : Nat} {ns : List Int} {n : Int} (d : TurnAt S i) (hi : i ≤ 40) (hq : S.queues[g]? = some ns) : TurnAt (S.left g ns n) (i + 1) := by
 have w := d.ok
 have hf := QcM (zs := ns.erase n) hq
 have hl := (List.erase_sublist (a := n) (l := ns)).length_le
 have hf2 := d.few
 have few : (S.left g ns n).told.flatten.length + (S.left g ns n).queues.flatten.length ≤ i + 1 := by
  show S.told.flatten.length + (S.queues.set g (ns.erase n)).flatten.length ≤ i + 1
  omega
 have mem : ∀ xs ∈ (S.left g ns n).queues, xs ∈ S.queues ∨ xs = ns.erase n := fun xs h => List.mem_or_eq_of_mem_set h
 have hm0 := List.mem_of_getElem? hq
 refine ⟨⟨⟨w.ok.row, w.ok.pair, w.ok.slot, w.ok.told, w.ok.few, w.ok.eight⟩, ⟨List.length_set.trans w.q.q4, w.q.t4, fun xs h => ?_, fun xs h m hm => ?_, QiH (by omega)⟩, w.few, w.weak, w.kd⟩, d.sl, few⟩
 ·rcases mem xs h with z | z
  ·exact w.q.un xs z
  ·rw [z]; exact (w.q.un ns hm0).sublist List.erase_sublist
 ·rcases mem xs h with z | z
  ·exact w.q.nm xs z m hm
  ·rw [z] at hm
   exact w.q.nm ns hm0 m (List.erase_sublist.subset hm)
theorem TurnAt.taken {g j : Nat} {ns : List Int} {n : Int} (d : TurnAt S i) (hi : i ≤ 40) (hq : S.told[g]? = some (n :: ns)) : TurnAt (S.taken g ns j n) (i + 1) := by
 have w := d.ok
 have hf := QcM (zs := ns) hq
 have hf2 := d.few
 have few : (S.taken g ns j n).told.flatten.length + (S.taken g ns j n).queues.flatten.length ≤ i + 1 := by
  show (S.told.set g ns).flatten.length + S.queues.flatten.length ≤ i + 1
  simp only [List.length_cons] at hf
  omega
 have hm0 := List.mem_of_getElem? hq
 refine ⟨⟨⟨w.ok.row, w.ok.pair, fun t h k e => ?_, fun xs h m hm => ?_, w.ok.few, w.ok.eight⟩, ⟨w.q.q4, List.length_set.trans w.q.t4, w.q.un, w.q.nm, QiH (by omega)⟩, w.few, w.weak, w.kd⟩, List.length_set.trans d.sl, few⟩
 ·rcases List.mem_or_eq_of_mem_set h with z | z
  ·exact w.ok.slot t z k e
  ·rw [z] at e; cases e
   exact w.ok.told _ hm0 _ List.mem_cons_self
 ·rcases List.mem_or_eq_of_mem_set h with z | z
  ·exact w.ok.told xs z m hm
  ·rw [z] at hm; exact w.ok.told _ hm0 m (List.mem_cons_of_mem _ hm)
theorem TurnAt.swept {hA hB : List Int} (d : TurnAt S i) (sw : Swept S none hA hB S') (nd : (S.boxes.map (·.name)).Nodup) : TurnAt S' (i + 1) := by
 refine ⟨sw.okW d.ok nd (fun n e => by cases e), by rw [sw.slots d.ok]; exact d.sl, ?_⟩
 rw [sw.told d.ok, sw.queues d.ok, QgR (d.ok.q.t4.trans d.ok.q.q4.symm)]
 have := d.few
 omega
theorem WaitAt.add {g : Nat} {n : Int} (h : WaitAt S W) (hg : g < 4) (ho : (g, n) ∉ W) : WaitAt (S.watch g (sel W g) n) (W ++ [(g, n)]) := by
 refine ⟨List.nodup_append.mpr ⟨h.nd, by simp, fun a ha b hb e => ho (by rw [← List.mem_singleton.mp hb, ← e]; exact ha)⟩, fun w hw => ?_, fun k hk => ?_⟩
 ·rcases List.mem_append.mp hw with z | z
  ·exact h.lt w z
  ·rw [List.mem_singleton.mp z]; exact hg
 ·show (S.queues.set g (sel W g ++ [n]))[k]? = _
  have e : sel (W ++ [(g, n)]) k = sel W k ++ if g = k then [n] else [] := by
   unfold sel
   rw [List.filter_append, List.map_append]
   by_cases e : g = k <;> simp [e]
  rw [e, List.getElem?_set]
  by_cases z : g = k
  ·subst z
   rw [if_pos rfl, if_pos (List.getElem?_eq_some_iff.mp (h.q g hg)).1, if_pos rfl]
  ·rw [if_neg z, if_neg z, List.append_nil]
   exact h.q k hk
theorem WaitAt.rem {g : Nat} {n : Int} (h : WaitAt S W) (hg : g < 4) : WaitAt (S.left g (sel W g) n) (W.erase (g, n)) := by
 refine ⟨h.nd.sublist List.erase_sublist, fun w hw => h.lt w (List.erase_sublist.subset hw), fun k hk => ?_⟩
 show (S.queues.set g ((sel W g).erase n))[k]? = _
 rw [h.nd.erase_eq_filter, List.getElem?_set]
 by_cases z : g = k
 ·subst z
  rw [if_pos rfl, if_pos (List.getElem?_eq_some_iff.mp (h.q g hg)).1, (sel_nd h.nd g).erase_eq_filter]
  rw [QcV (p' := fun m => m != n)]
  intro w _ e
  rw [Bool.eq_iff_iff]
  simp only [bne_iff_ne, ne_eq]
  exact not_congr ⟨fun q => by rw [q], fun q => Prod.ext e q⟩
 ·rw [if_neg z, QcV (p' := fun _ => true), List.filter_eq_self.mpr (fun _ _ => rfl)]
  ·exact h.q k hk
  ·intro w _ e
   simp only [bne_iff_ne, ne_eq]
   exact fun q => z (by rw [← e, q])
theorem WaitAt.of {T : HS} (h : WaitAt S W) (e : T.queues = S.queues) : WaitAt T W := ⟨h.nd, h.lt, by rw [e]; exact h.q⟩
end
def rmv (W ws : List (Nat × Int)) : List (Nat × Int) := ws.foldl (fun W w => W.erase w) W
theorem Qas : ∀ {ws W : List (Nat × Int)}, W.Nodup → rmv W ws = W.filter fun w => !decide (w ∈ ws)
 | [], W, _ => by
  show W = _
  exact (List.filter_eq_self.mpr fun _ _ => by simp).symm
 | w :: ws, W, nd => by
  show rmv (W.erase w) ws = _
  rw [Qas (nd.sublist List.erase_sublist), nd.erase_eq_filter, List.filter_filter]
  refine List.filter_congr fun x _ => ?_
  by_cases e : x = w <;> simp [e]
theorem Qks {ws W : List (Nat × Int)} (nd : W.Nodup) {w : Nat × Int} (h : w ∈ W) (ho : w ∉ ws) : w ∈ rmv W ws := by
 rw [Qas nd]
 exact List.mem_filter.mpr ⟨h, by simp [ho]⟩
theorem Qjk (W ws : List (Nat × Int)) (w : Nat × Int) : rmv W (ws ++ [w]) = (rmv W ws).erase w := by unfold rmv; rw [List.foldl_append]; rfl
def app (T : List (List Int)) (ws : List (Nat × Int)) : List (List Int) := ws.foldl (fun T w => T.set w.1 (T.getD w.1 [] ++ [w.2])) T
theorem QjL (T : List (List Int)) (ws : List (Nat × Int)) (w : Nat × Int) : app T (ws ++ [w]) = (app T ws).set w.1 ((app T ws).getD w.1 [] ++ [w.2]) := by unfold app; rw [List.foldl_append]; rfl
theorem Qi3 (T : List (List Int)) (ws : List (Nat × Int)) : (app T ws).length = T.length := by
 unfold app
 induction ws generalizing T with
 | nil => rfl
 | cons w ws ih => rw [List.foldl_cons, ih, List.length_set]
theorem Qhd : ∀ {ws : List (Nat × Int)} {T : List (List Int)}, (∀ w ∈ ws, w.1 < T.length) → (app T ws).flatten.length = T.flatten.length + ws.length
 | [], T, _ => rfl
 | w :: ws, T, h => by
  show (app (T.set w.1 (T.getD w.1 [] ++ [w.2])) ws).flatten.length = _
  have hw := h w List.mem_cons_self
  rw [Qhd fun x hx => by rw [List.length_set]; exact h x (List.mem_cons_of_mem _ hx)]
  have := QcM (zs := T.getD w.1 [] ++ [w.2]) (List.getElem?_eq_getElem hw)
  rw [List.getD_eq_getElem?_getD, List.getElem?_eq_getElem hw] at *
  simp only [Option.getD_some, List.length_append, List.length_cons, List.length_nil] at this ⊢
  omega
theorem Qi2 {i : Nat} : ∀ {xs : List Int} {T : List (List Int)}, i < T.length → app T (xs.map fun n => (i, n)) = T.set i (T.getD i [] ++ xs)
 | [], T, h => by
  show T = _
  rw [List.append_nil, List.getD_eq_getElem?_getD, List.getElem?_eq_getElem h]
  exact (List.set_getElem_self h).symm
 | x :: xs, T, h => by
  show app (T.set i (T.getD i [] ++ [x])) (xs.map fun n => (i, n)) = _
  rw [Qi2 (by rw [List.length_set]; exact h), List.set_set]
  congr 1
  rw [List.getD_eq_getElem?_getD (l := T.set i _), List.getElem?_set_self h]
  simp
theorem Qgp {hs : List Int} {S : HS} {T : List (List Int)} : ∀ i, i ≤ T.length → ∀ g : Nat, (app T (Qx hs S i))[g]? = (T[g]?).map fun t => if g < i then t ++ (S.queues.getD g []).filter fun n => !decide (n ∈ hs) else t
 | 0, _, g => by
  show T[g]? = _
  cases T[g]? <;> simp
 | i + 1, hi, g => by
  have ih := Qgp (hs := hs) (S := S) (T := T) i (by omega)
  have hl := Qi3 T (Qx hs S i)
  show (app T (Qx hs S i ++ _))[g]? = _
  have e : app T (Qx hs S i ++ ((S.queues.getD i []).filter fun n => !decide (n ∈ hs)).map fun n => (i, n)) = app (app T (Qx hs S i)) (((S.queues.getD i []).filter fun n => !decide (n ∈ hs)).map fun n => (i, n)) := by unfold app; rw [List.foldl_append]
  rw [e, Qi2 (by omega), List.getElem?_set]
  by_cases z : i = g
  ·subst z
   rw [if_pos rfl, if_pos (by omega), List.getD_eq_getElem?_getD (l := app T _), ih i, List.getElem?_eq_getElem (show i < T.length by omega)]
   simp
  ·rw [if_neg z, ih g]
   cases T[g]? with
   | none => rfl
   | some t =>
    show some _ = some _
    congr 1
    dsimp only
    by_cases h : g < i
    ·rw [if_pos h, if_pos (by omega)]
    ·rw [if_neg h, if_neg (by omega)]
theorem Qcv {hs : List Int} {S : HS} {g : Nat} {n : Int} : ∀ {i : Nat}, (g, n) ∈ Qx hs S i ↔ g < i ∧ n ∈ S.queues.getD g [] ∧ n ∉ hs
 | 0 => by simp [Qx]
 | i + 1 => by
  show (g, n) ∈ Qx hs S i ++ _ ↔ _
  rw [List.mem_append, Qcv (i := i)]
  constructor
  ·rintro (⟨h1, h2⟩ | h)
   ·exact ⟨by omega, h2⟩
   ·obtain ⟨m, hm, e⟩ := List.mem_map.mp h
    have e1 : i = g := congrArg Prod.fst e
    have e2 : m = n := congrArg Prod.snd e
    subst e1 e2
    obtain ⟨h1, h2⟩ := List.mem_filter.mp hm
    exact ⟨by omega, h1, by simpa using h2⟩
  ·rintro ⟨h1, h2, h3⟩
   by_cases z : g < i
   ·exact .inl ⟨z, h2, h3⟩
   ·right
    have : g = i := by omega
    subst this
    exact List.mem_map.mpr ⟨n, List.mem_filter.mpr ⟨h2, by simpa using h3⟩, rfl⟩
theorem QgS {hs : List Int} {S : HS} (un : ∀ xs ∈ S.queues, xs.Nodup) : ∀ i, (Qx hs S i).Nodup
 | 0 => List.nodup_nil
 | i + 1 => by
  show (Qx hs S i ++ _).Nodup
  refine List.nodup_append.mpr ⟨QgS un i, ?_, fun a ha b hb e => ?_⟩
  ·refine List.Pairwise.map (R := fun a b : Int => a ≠ b) _ (fun a b hne e => hne (congrArg Prod.snd e)) ?_
   have : (S.queues.getD i []).Nodup := by
    rw [List.getD_eq_getElem?_getD]
    cases e : S.queues[i]? with
    | none => exact List.nodup_nil
    | some q => exact un q (List.mem_of_getElem? e)
   exact this.sublist List.filter_sublist
  ·obtain ⟨m, _, e2⟩ := List.mem_map.mp hb
   have h1 := (Qcv (hs := hs) (S := S) (g := a.1) (n := a.2) (i := i)).mp ha
   have : a.1 = i := by rw [e, ← e2]
   omega
section
variable {S S' : HS} {W : List (Nat × Int)} {hA hB : List Int}
theorem WaitAt.words (h : WaitAt S W) : ∀ w ∈ Qx hA S 4, w ∈ W ∧ w.1 < 4 ∧ w.2 ∉ hA := fun w hw => by
 obtain ⟨h1, h2, h3⟩ := (Qcv (hs := hA) (S := S) (g := w.1) (n := w.2)).mp hw
 rw [List.getD_eq_getElem?_getD, h.q _ h1] at h2
 exact ⟨Qfg.mp h2, h1, h3⟩
theorem WaitAt.swept (h : WaitAt S W) (sw : Swept S none hA hB S') (w : S.OkW) : WaitAt S' (rmv W (Qx hA S 4)) := by
 refine ⟨?_, fun x hx => ?_, fun g hg => ?_⟩
 ·rw [Qas h.nd]; exact h.nd.sublist List.filter_sublist
 ·rw [Qas h.nd] at hx; exact h.lt x (List.mem_filter.mp hx).1
 ·rw [sw.queues w, List.getElem?_map, h.q g hg, Qas h.nd, QcV (p' := fun n => decide (n ∈ hA))]
  ·rfl
  ·intro x hx e
   have hx2 : x.2 ∈ S.queues.getD x.1 [] := by
    rw [List.getD_eq_getElem?_getD, h.q _ (h.lt x hx)]
    exact Qfg.mpr hx
   have hm := Qcv (hs := hA) (S := S) (g := x.1) (n := x.2) (i := 4)
   have hm : x ∈ Qx hA S 4 ↔ _ := hm
   by_cases z : x.2 ∈ hA
   ·rw [decide_eq_true z, decide_eq_false (fun q => (hm.mp q).2.2 z)]; rfl
   ·rw [decide_eq_false z, decide_eq_true (hm.mpr ⟨h.lt x hx, hx2, z⟩)]; rfl
theorem Qjb (sw : Swept S none hA hB S') (w : S.OkW) : app S.told (Qx hA S 4) = S'.told := by
 rw [sw.told w]
 refine List.ext_getElem? fun g => ?_
 rw [Qgp 4 (by have := w.q.t4; omega) g, List.getElem?_zipWith]
 cases e : S.told[g]? with
 | none => rfl
 | some t =>
  have hg : g < 4 := by have := (List.getElem?_eq_some_iff.mp e).1; have := w.q.t4; omega
  have hq : S.queues[g]? = some (S.queues[g]'(by have := w.q.q4; omega)) := List.getElem?_eq_getElem _
  rw [hq, List.getD_eq_getElem?_getD, hq]
  simp [hg]
end
theorem Qe8 : ∀ {ts : List T} {n : Int}, n ∈ Qv ts → .box n ∈ ts
 | [], _, h => by simp [Qv] at h
 | t :: ts, n, h => by
  have e : Qv (t :: ts) = Qv [t] ++ Qv ts := ZG [t] ts
  rw [e] at h
  rcases List.mem_append.mp h with z | z
  ·cases t with
   | non => simp [Qv] at z
   | num i => simp [Qv] at z
   | box k =>
    have : n = k := by simpa [Qv] using z
    rw [this]; exact List.mem_cons_self
  ·exact List.mem_cons_of_mem _ (Qe8 z)
def rWA (l : Addr) (ws : List (Nat × Int)) (as : List Addr) : Rt where
 on H F := Qbn H l ws as ∧ F = [l]
 keep := by
  rintro H H' F ⟨⟨h1, h2⟩, rfl⟩ k im
  exact ⟨⟨(k l (by simp)).trans h1, Zx im.t h2⟩, rfl⟩
 there := by
  rintro H F ⟨⟨h1, h2⟩, rfl⟩ b hb
  obtain rfl : b = l := by simpa using hb
  exact ⟨_, h1⟩
section
variable {H : Hp} {W : List Rt} {i : Nat} {a : Addr} {ws : List (Nat × Int)} {as : List Addr}
theorem Own.wexp (w : Own H W) (h : W[i]? = some (Zi a ws)) : ∃ as, Own H (W.set i (rWA a ws as)) := by
 obtain ⟨F, G, ⟨as, q, rfl⟩, nd, dj, th, fin⟩ := w.chg h
 exact ⟨as, fin H _ _ ⟨q, rfl⟩ nd (fun b hb => .inl hb) (fun _ _ => rfl) (Imm.refl H)⟩
theorem Own.wunexp (w : Own H W) (h : W[i]? = some (rWA a ws as)) : Own H (W.set i (Zi a ws)) := by
 obtain ⟨F, G, ⟨q, rfl⟩, nd, dj, th, fin⟩ := w.chg h
 exact fin H _ _ ⟨as, q, rfl⟩ nd (fun b hb => .inl hb) (fun _ _ => rfl) (Imm.refl H)
theorem Own.wa (w : Own H W) (h : W[i]? = some (rWA a ws as)) : Qbn H a ws as := by
 obtain ⟨F, q, _⟩ := w.get h
 exact q
theorem Own.wordsRem (w : Own H W) (h : W[i]? = some (Zi a ws)) : ∃ as, Qbn H a ws as ∧ ∀ x ∈ ws, Own (upd H a (.lst ((as.eraseIdx (ws.idxOf x)).map V.ref))) (W.set i (Zi a (ws.erase x))) := by
 obtain ⟨F, G, ⟨as, ⟨q1, q2⟩, rfl⟩, nd, dj, th, fin⟩ := w.chg h
 refine ⟨as, ⟨q1, q2⟩, fun x hx => ?_⟩
 have im : Imm H (upd H a (.lst ((as.eraseIdx (ws.idxOf x)).map V.ref))) := Imm.upd q1 trivial
 rw [List.erase_eq_eraseIdx_of_idxOf rfl]
 exact fin _ _ [a] ⟨as.eraseIdx (ws.idxOf x), ⟨Qb, Zx im.t (Qfk _ q2)⟩, rfl⟩ nd (fun c hc => .inl hc) (fun c hc => Qf fun e => dj a (by simp) (e ▸ hc)) im
theorem Own.llsPut {g : Nat} {xss : List (List Int)} {xs : List Int} (w : Own H W) (h : W[i]? = some (QfX a xss)) (hx : xss[g]? = some xs) : ∃ (al : List Addr) (b : Addr), H a = some (.lst (al.map V.ref)) ∧ atI (al.map V.ref) (g : Int) = some (V.ref b) ∧ H b = some (.lst (xs.map V.int)) ∧
  ∀ ys, Own (upd H b (.lst (ys.map V.int))) (W.set i (QfX a (xss.set g ys))) := by
 obtain ⟨al, o1⟩ := w.exp h
 have hi : i < W.length := (List.getElem?_eq_some_iff.mp h).1
 have h1 : (W.set i (rLl a al xss))[i]? = some (rLl a al xss) := List.getElem?_set_self hi
 obtain ⟨q1, q2⟩ := o1.ll h1
 obtain ⟨b, hb, hib⟩ := Q6 q2 hx
 refine ⟨al, b, q1, Zh (by rw [List.getElem?_map, hb]; rfl), hib, fun ys => ?_⟩
 have o2 := o1.llPut h1 hb ys
 rw [List.set_set] at o2
 have o3 := o2.unexp (List.getElem?_set_self hi)
 rwa [List.set_set] at o3
theorem Own.dct {kvs : List (Key × V)} (w : Own H W) (h : W[i]? = some (QjZ a kvs)) : H a = some (.dK kvs) := by
 obtain ⟨F, q, _⟩ := w.get h
 exact q
end
section
variable {C : Addr}
def QeT (C : Addr) : Sp := fun vs H Q _ => ∃ (p : Addr) (A : HA) (S : HS), vs = [.ref p] ∧ HouseAt C H p A S ∧ S.OkW ∧ S.slots.length = 4 ∧ S.told.flatten.length ≤ 400 ∧ ∀ d ns H', Same H H' → H d = none → H' d = some (.dK (Q5 ns)) → (∀ n ∈ ns, QcS S none n) → Q (.ref d) H'
theorem Qce : QD (Qg Q4) ["house", "found", "starts", "guard"] (QP ((QiW 0 (Qbq (QeR (Qo Q4) 1))))) "slot" ["house"] [0] :=
 bsk
theorem QcJ {f : Addr} (F : Fun K "_law_just_held" "_law_just_held" Q4 f fd) (T : TX K mg C) (D1_ : DefOk P w K mg base n "_law_read" ["house"] (QjT C) [[]])
  (D2_ : DefOk P w K mg base n "_law_boxes" ["things"] (Qgv) [[]])
  (M3_ : MethOk P w K mg base C n "held" ["self", "slot"] (QjV C) [[]])
  (M4_ : MethOk P w K mg base C n "words" ["self", "guard"] (Qgt C) [[]])
  (D5_ : DefOk P w K mg base n "_law_held" ["kinds", "rows", "starts"] (Qh0) [[]]) :
  FnOk P w K mg base CX0 (n + 1) f fd ["house"] (QeT C) := by
 refine F.ok QT (by rintro _ _ _ _ ⟨_, _, _, rfl, _⟩; rfl) fun _ _ _ s H vs Q E hr h => ?_
 obtain ⟨p, A', S, rfl, hh, okW, sl4, t8, k⟩ := h
 have hu := QC hr
 refine ⟨_, (Qc (Qq (i := 1) QT.nd rfl (Or.inl rfl) (qc D1_ hr (Qa (pv 0) Qe)))
  (Qc (Qq (i := 2) QT.nd rfl (Or.inl rfl) (qc D2_ hr (Qa (QaZ Qce rfl (Zb (by rfl) T.g_range (Qa Qi Qe)) (fun _ _ _ _ => QaM) (fun _ _ _ _ => (qm M3_ (pv 1) T.cl hr (Qa (pv 0) Qe)))) Qe)))
  (Qc (Za PassesOwn.never rfl (Zb (by rfl) T.g_range (Qa Qi Qe)) (QS (i := 3) QT.nd rfl (Or.inl rfl))
  (Qh (Qq (i := 2) QT.nd rfl (Or.inl rfl) (Qz op_cat (pv 2) (qm M4_ (pv 0) T.cl hr (Qa (pv 3) Qe))))))
  (Qh (Qs (qc D5_ hr (Qa (QG Q7 (pv 1) Qi (fun _ _ => rfl)) (Qa (QG Q7 (pv 1) Qi (fun _ _ => rfl)) (Qa (pv 2) Qe))))))))), ?_⟩
 have few := okW.few
 refine ⟨_, rfl, p, A', S, rfl, hh, few, okW.ok.eight, fun m ak ar H1 s1 hm hR => ?_⟩
 have hh1 := hh.same s1
 refine ⟨4, rfl, by decide, by decide, Qa6 (lo := 0) (n := 4) (fun i ys H' => H' = H1 ∧ Ths H1 (S.slots.take i) ys) ⟨rfl, .nil⟩ ?_ (zl) ?_ ?_⟩
 ·rintro i ys H' ⟨_, ht⟩
  rw [← pr_len ht, List.length_take]; omega
 ·rintro i ys H' hi ⟨rfl, ht⟩
  dsimp only [Qfc]
  rw [show (0 : Int) + (i : Int) = (i : Int) from Int.zero_add _]
  have hij : i < S.slots.length := by omega
  refine Qcd ⟨_, rfl, p, A'.dx, _, rfl, hh1.ob, Ql, _, rfl, p, A', S, i, S.slots[i], rfl, hh1, List.getElem?_eq_getElem hij, fun v tv => ⟨rfl, ?_⟩⟩
  rw [show S.slots.take (i + 1) = S.slots.take i ++ [S.slots[i]] by rw [List.take_add_one, List.getElem?_eq_getElem hij]; rfl]
  exact Qci ht (.cons tv .nil)
 rintro ys H' ⟨rfl, ht⟩ ls hls
 rw [List.take_of_length_le (by omega)] at ht
 refine ⟨ls, S.slots, rfl, ⟨ys, Qb, Ths.keep (Tups.new hls) ht⟩, by omega, fun l1 H2 s2 n2 h2 => ?_⟩
 have s12 := (Same.new (o := .lst ys) hls).trans s2
 have s02 := s1.trans s12
 refine ⟨4, rfl, by decide, by decide, ?_⟩
 refine QaI (lo := 0) (n := 4) (fun i σ H' => ∃ v_guard l1, σ = [some (.ref p), some (.ref m), some (.ref l1), v_guard] ∧ Same H2 H' ∧ H' l1 = some (.lst ((Qv S.slots ++ (S.told.take i).flatten).map V.int))) ?_ ?_ ?_
 ·exact ⟨_, l1, rfl, Same.refl _, by simpa using h2⟩
 ·rintro i σ H3 hi ⟨v1, l2, rfl, s3, h3⟩
  have e0 : (0 : Int) + (i : Int) = (i : Int) := Int.zero_add _
  rw [e0]
  have hh3 := hh.same (s02.trans s3)
  have hi' : i < S.told.length := by have := okW.q.t4; omega
  have hti := List.getElem?_eq_getElem hi'
  refine ⟨_, rfl, _, rfl, p, A'.dx, _, rfl, hh3.ob, Ql, _, rfl, p, A', S, i, _, rfl, hh3, hi, hti, fun l3 hl3 => ?_⟩
  refine ⟨l2, l3, _, _, rfl, rfl, Zt h3 hl3, Qb, ?_, fun l4 hl4 => ⟨_, l4, rfl, s3.trans ((Same.new hl3).trans (Same.new hl4)), ?_⟩⟩
  ·have a1 := Qau S.slots
   have a2 := Qc3 hti
   have a3 : (S.told.take i).flatten.length ≤ S.told.flatten.length := by
    conv => rhs; rw [← List.take_append_drop i S.told]
    rw [List.flatten_append, List.length_append]; omega
   refine Zr ?_
   simp only [List.length_map, List.length_append]
   omega
  ·rw [Qb, Qab hti, List.flatten_append, ← List.append_assoc, List.map_append]
   simp
 rintro σ H3 ⟨v1, l2, rfl, s3, h3⟩
 rw [show (4 : Nat) = S.told.length from okW.q.t4.symm, List.take_length] at h3
 have s13 := s12.trans s3
 have hm3 := s13 _ _ hm
 obtain ⟨fl, r1, r2, r3, _⟩ := hR
 have a1 := Qau S.slots
 have hst : ∀ n ∈ Qv S.slots ++ S.told.flatten, QcS S none n := fun n hn => by
  rcases List.mem_append.mp hn with z | z
  ·exact .slot (Qe8 z)
  ·obtain ⟨xs, hx, hn⟩ := List.mem_flatten.mp z
   exact .told hx hn
 refine ⟨_, rfl, m, _, 0, .ref ak, rfl, rfl, SqT.of hm3, rfl, _, rfl, m, _, 1, .ref ar, rfl, rfl, SqT.of hm3, rfl, _, rfl, ak, ar, l2, S.boxes, fl, Qv S.slots ++ S.told.flatten, rfl, ⟨s13 _ _ r1, s13 _ _ r2, QE (fun _ _ _ _ ⟨vs, z1, z2⟩ => ⟨vs, s13 _ _ z1, Ths.keep (Tups.of_same s13) z2⟩) r3⟩, hh.nm, h3, by rw [List.length_append]; omega, by omega, fun n hn => okW.ok.held (fun n e => by cases e) (hst n hn), fun b hb => ⟨okW.ok.eight b hb, okW.ok.pair b hb, fun n hn => okW.ok.row b hb _ hn n rfl⟩, fun d ns H4 s4 n4 h4 _ _ _ _ snd => ?_⟩
 exact k d ns H4 ((s02.trans s3).trans s4) ((s02.trans s3).free n4) h4 (snd.held hst okW.ok.pair)
def QeS : Sp := fun vs H Q _ => ∃ (l d lw du : Addr) (ws : List (Nat × Int)) (ns : List Int) (W : List (Nat × Int)) (T : List (List Int)) (R : List Rt), vs = [.ref l, .ref d, .ref lw, .ref du] ∧ Own H (Zi lw W :: QfX du T :: Zi l ws :: QjZ d (Q5 ns) :: R) ∧ W.Nodup ∧ ws.Nodup ∧ (∀ w ∈ ws, w ∈ W ∧ w.1 < 4 ∧ w.2 ∉ ns) ∧ T.length = 4 ∧ T.flatten.length + ws.length ≤ 800 ∧
 ∀ H', Own H' (Zi lw (rmv W ws) :: QfX du (app T ws) :: Zi l ws :: QjZ d (Q5 ns) :: R) → Q (.bl true) H'
theorem QcI {f : Addr} (F : Fun K "_law_words_fit" "_law_words_fit" Z7 f fd) (T : TX K mg C)  :
  FnOk P w K mg base CX0 (n + 1) f fd ["words", "held", "wait", "due"] (QeS) := by
 refine F.ok QaK (by rintro _ _ _ _ ⟨_, _, _, _, _, _, _, _, _, rfl, _⟩; rfl) fun _ _ _ s H vs Q E hr h => ?_
 obtain ⟨l, d, lw, du, ws, ns, W, Ts, R, rfl, o, nW, nws, hws, t4, few, q⟩ := h
 have hu := QC hr
 refine ⟨_, (Qc (Za PassesOwn.never rfl (QR (pv 0)) (QS (i := 4) QaK.nd rfl (Or.inl rfl))
  (Qc (QZ (PW.pt (Qfj (QfY (Qch (Qy QdM (by rfl) T.g_isi PyProof.Rows.boot_isinstance (Qa (pv 4) (Qa (Qfm (v := .ty "tuple") (by rfl) T.g_tuple PyProof.Rows.boot_tuple rfl) Qe))))) (Qfj (Qp op_ne (Qy Qt (by rfl) T.g_len PySem.boot_len (Qa (pv 4) Qe)) Qi (QF _)) (Qfj (QaL (Qie hu (QG Q7 (pv 4) Qi (fun _ _ => rfl)) (pv 1))) (Qec (Qp (Qf1 hr.units) (pv 4) (pv 2) rfl)))))) (Qh (Qs Qdr)) Qn)
  (Qc (Qk (QcF PySem.F.plainAttrs_list PySem.F.slot_list_remove PySem.F.type_list_remove (QeZ hr.units) (pv 2) (Qa (pv 4) Qe)))
  (Qh (Qk (QcF PySem.F.plainAttrs_list PySem.F.slot_list_append PySem.F.type_list_append Qaf (QG QI (pv 3) (QG Q7 (pv 4) Qi (fun _ _ => rfl)) (fun _ _ => rfl)) (Qa (QG Q7 (pv 4) Qi (fun _ _ => rfl)) Qe)))))))
  (Qh (Qs Qdr))), ?_⟩
 obtain ⟨as, o0⟩ := o.wexp (i := 2) rfl
 have hl0 := (o0.wa (i := 2) rfl).1
 have hal := pr_len (o0.wa (i := 2) rfl).2
 refine ⟨_, rfl, l, rfl, ⟨_, SqL.of hl0⟩, ?_⟩
 refine Zv (K := K) (xs := as.map V.ref) (fun i σ H' => ∃ v_word, σ = [some (.ref l), some (.ref d), some (.ref lw), some (.ref du), v_word] ∧ Own H' (Zi lw (rmv W (ws.take i)) :: QfX du (app Ts (ws.take i)) :: rWA l ws as :: QjZ d (Q5 ns) :: R)) ?_ ?_ ?_ ?_
 ·exact ⟨_, rfl, o0⟩
 ·rintro i σ H' _ ⟨v1, rfl, o1⟩
  exact SqL.of (o1.wa (i := 2) rfl).1
 ·rintro i y σ H1 hy ⟨v1, rfl, o1⟩
  have hil : i < ws.length := by
   have := (List.getElem?_eq_some_iff.mp hy).1
   rw [List.length_map] at this
   omega
  have hwi := List.getElem?_eq_getElem hil
  obtain ⟨b, hb, htb⟩ := Q6 (o1.wa (i := 2) rfl).2 hwi
  have ey : y = V.ref b := by
   rw [List.getElem?_map, hb] at hy
   exact (Option.some.inj hy).symm
  subst ey
  obtain ⟨hwW, hw4, hwn⟩ := hws _ (List.getElem_mem hil)
  have hout : ws[i] ∉ ws.take i := fun z => by
   obtain ⟨j, hj, e⟩ := List.getElem_of_mem z
   rw [List.getElem_take] at e
   have hji : j < i := by rw [List.length_take] at hj; omega
   exact absurd ((List.getElem_inj nws).mp e) (by omega)
  have hin := Qks nW hwW hout
  have etk : ws.take (i + 1) = ws.take i ++ [ws[i]] := by rw [List.take_add_one, hwi]; rfl
  rw [etk, Qjk, QjL]
  generalize ws[i] = x at htb hwW hw4 hwn hin
  have hd1 := o1.dct (i := 3) rfl
  obtain ⟨as1, ⟨hlw1, hp1⟩, rem1⟩ := o1.wordsRem (i := 0) rfl
  refine ⟨_, rfl, _, "tuple", _, true, rfl, .tup htb, QdH _ _, _, rfl, Qbz ?_⟩
  refine ⟨_, rfl, b, _, rfl, .inr (SqT.of htb), rfl, _, rfl, iteNS rfl ?_⟩
  refine ⟨_, rfl, b, _, 1, .int x.2, rfl, rfl, SqT.of htb, rfl, _, rfl, d, _, rfl, DGet.k (k := Sum.inl x.2) hd1, _, rfl, QbS ?_ ?_⟩
  ·rw [QdK, decide_eq_false hwn]
  refine ⟨_, rfl, _, rfl, b, lw, x, _, as1, rfl, rfl, htb, hlw1, hp1, _, rfl, QbS ?_ ?_⟩
  ·show (!decide (x ∈ rmv W (ws.take i))) = false
   rw [decide_eq_true hin]; rfl
  refine ⟨_, rfl, .inl ⟨rfl, _, SqL.of hlw1⟩, _, rfl, lw, b, x, _, as1, rfl, rfl, htb, hlw1, hp1, hin, ?_⟩
  have o2 : Own _ (Zi lw ((rmv W (ws.take i)).erase x) :: QfX du (app Ts (ws.take i)) :: rWA l ws as :: QjZ d (Q5 ns) :: R) := rem1 x hin
  have tb2 : (upd H1 lw (.lst ((as1.eraseIdx ((rmv W (ws.take i)).idxOf x)).map V.ref))) b = some (.tup [.int (x.1 : Int), .int x.2]) := by
   rw [Qf (QB htb hlw1 (by intro z; cases z))]; exact htb
  generalize upd H1 lw (.lst ((as1.eraseIdx ((rmv W (ws.take i)).idxOf x)).map V.ref)) = H2 at o2 tb2 ⊢
  have hal2 : x.1 < (app Ts (ws.take i)).length := by rw [Qi3]; omega
  obtain ⟨al, c, hdu, hix, hic, put2⟩ := o2.llsPut (i := 1) rfl (List.getElem?_eq_getElem hal2)
  have hfl := Qhd (T := Ts) (ws := ws.take i) fun z hz => by rw [t4]; exact (hws z (List.mem_of_mem_take hz)).2.1
  have hfa := Qc3 (List.getElem?_eq_getElem hal2)
  rw [List.length_take] at hfl
  refine ⟨_, rfl, _, rfl, b, _, 0, .int (x.1 : Int), rfl, rfl, SqT.of tb2, rfl, du, _, _, .ref c, rfl, rfl, SqL.of hdu, hix, .inl ⟨rfl, _, SqL.of hic⟩, _, rfl, b, _, 1, .int x.2, rfl, rfl, SqT.of tb2, rfl, c, _, _, rfl, rfl, hic, QK (by rw [List.length_map]; omega), ?_⟩
  refine ⟨_, rfl, ?_⟩
  have z := put2 ((app Ts (ws.take i))[x.1] ++ [x.2])
  rw [List.map_append] at z
  have e2 : (app Ts (ws.take i)).getD x.1 [] = (app Ts (ws.take i))[x.1] := by rw [List.getD_eq_getElem?_getD, List.getElem?_eq_getElem hal2]; rfl
  rw [e2]
  exact z
 ·rintro σ H1 ⟨v1, rfl, o1⟩
  rw [List.length_map, ← hal, List.take_length] at o1
  exact q _ (o1.wunexp (i := 2) rfl)
end
section
variable {H H' : Hp} {W : List Rt} {i : Nat} {C p : Addr} {S : HS}
theorem Own.houseAdd (w : Own H W) (h : W[i]? = some (Qam C p S)) : ∃ A, HouseAt C H p A S ∧
  ∀ A' H' S' r F, Upto C H p A H' A' S' → Rt.on r H' F → F.Nodup → Grown (A.foot p) F H → (∀ b ∈ F, b ∉ A'.foot p) → Own H' (r :: W.set i (Qam C p S')) := by
 obtain ⟨Fs, q, nd⟩ := w
 obtain ⟨F0, hF, A, hh, rfl⟩ := Q6 q h
 obtain ⟨n1, n2, n3⟩ := Qfu hF nd
 have th : ∀ b ∈ QaF Fs i, ∃ o, H b = some o := fun b hb => by
  obtain ⟨G, hG, hb⟩ := List.mem_flatten.mp hb
  obtain ⟨j, hj⟩ := List.getElem?_of_mem (List.mem_of_mem_eraseIdx hG)
  obtain ⟨r2, _, q2⟩ := pr_getR q hj
  exact r2.there q2 b hb
 refine ⟨A, hh, fun A' H' S' r F u hr ndF gr no => ?_⟩
 have im : Imm H H' := ⟨u.tu, hh.frz u.fr⟩
 refine ⟨F :: Fs.set i (A'.foot p), .cons hr (QcW q ⟨A', u.hh, rfl⟩ fun j a b hj h1 h2 z => a.keep z (fun c hc => ?_) im), ?_⟩
 ·have hc' : c ∈ QaF Fs i := List.mem_flatten.mpr ⟨b, List.mem_iff_getElem?.mpr (by
   by_cases e : j < i
   ·exact ⟨j, by rw [List.getElem?_eraseIdx_of_lt e]; exact h2⟩
   ·have e : i < j := by omega
    obtain ⟨k, rfl⟩ : ∃ k, j = k + 1 := ⟨j - 1, by omega⟩
    exact ⟨k, by rw [List.getElem?_eraseIdx_of_ge (by omega)]; exact h2⟩), hc⟩
  obtain ⟨o, e⟩ := th c hc'
  rw [e]
  exact u.fr c o e fun m => n3 c m hc'
 ·rw [List.flatten_cons]
  refine List.nodup_append.mpr ⟨ndF, QgG hF (HA.footNd u.hh) n2 (fun b hb hz => ?_), fun x hx y hy e => ?_⟩
  ·rcases u.gr b hb with z | z
   ·exact n3 b z hz
   ·obtain ⟨o, e⟩ := th b hz
    rw [z] at e; cases e
  ·subst e
   rcases QbP hy with z | z
   ·exact no x hx z
   ·rcases gr x hx with q | q
    ·exact n3 x q z
    ·obtain ⟨o, e⟩ := th x z
     rw [q] at e; cases e
end
abbrev Qfb (K : Fg) (C lw du p a : Addr) (ns : List Int) (S : HS) (W : List (Nat × Int)) : List Rt := [Zi lw W, QfX du S.told, Qam C p S, Qhk K a ns]
theorem QfM {hs : List Int} {S : HS} : ∀ i, (Qx hs S i).length ≤ (S.queues.take i).flatten.length
 | 0 => Nat.zero_le _
 | i + 1 => by
  have ih := QfM (hs := hs) (S := S) i
  show (Qx hs S i ++ _).length ≤ _
  rw [List.length_append, List.length_map]
  cases e : S.queues[i]? with
  | none =>
   rw [List.getD_eq_getElem?_getD, e]
   have h1 : S.queues.take (i + 1) = S.queues.take i := by rw [List.take_add_one, e]; simp
   rw [h1]; simpa using ih
  | some q =>
   rw [Qab e, List.flatten_append, List.length_append, List.getD_eq_getElem?_getD, e]
   have := List.length_filter_le (fun n => !decide (n ∈ hs)) q
   simp at *
   omega
theorem Qkt (W ws : List (Nat × Int)) (nd : W.Nodup) : (rmv W ws).length ≤ W.length := by
 rw [Qas nd]; exact List.length_filter_le _ _
section
variable {C : Addr}
def QjQ (K : Fg) (C : Addr) : Sp := fun vs H Q _ => ∃ (a : Addr) (ns : List Int) (k : Int) (p lw du : Addr) (S : HS) (W : List (Nat × Int)) (i : Nat), vs = [.ref a, .int k, .ref p, .ref lw, .ref du] ∧ Own H (Qfb K C lw du p a ns S W) ∧ TurnAt S i ∧ WaitAt S W ∧ W.length ≤ i ∧ i ≤ 40 ∧
 ∀ H' S' W', TurnAt S' (i + 1) → WaitAt S' W' → W'.length ≤ i + 1 → Own H' (Qfb K C lw du p a ns S' W') → Q (.bl true) H'
theorem Qfo {f : Addr} {t_tk : Tok} (F : Fun K "_law_turn" "_law_turn" QbF f fd) (T : TX K mg C) (D2_ : DefOk P w K mg base n "_law_draw" ["script", "k"] (Qcj K) [[]])
  (M3_ : MethOk P w K mg base C n "names" ["self"] (QdU C) [[]])
  (M4_ : MethOk P w K mg base C n "watch" ["self", "guard", "name"] (QhN C) [[]])
  (M5_ : MethOk P w K mg base C n "leave" ["self", "guard", "name"] (QhV C) [[]])
  (M6_ : MethOk P w K mg base C n "hold" ["self", "slot", "thing"] (QhZ C) [[]])
  (D7_ : DefOk P w K mg base n "_law_just_held" ["house"] (QeT C) [[]])
  (D8_ : DefOk P w K mg base n "_law_words_fit" ["words", "held", "wait", "due"] (QeS) [[]])
  (D1_ : DefOk P w K mg base n "sweep" ["house", "besides"] (QhP C) [[], [.none]])
  (M9_ : MethOk P w K mg base C n "take" ["self", "guard", "slot"] (QjS C) [[], [.int 0 t_tk]]) :
  FnOk P w K mg base CX0 (n + 1) f fd ["script", "k", "house", "wait", "due"] (QjQ K C) := by
 obtain ⟨f1_, fd1_, n1_, k1_, J1_, c1_⟩ := D1_
 refine F.ok Q8 (by rintro _ _ _ _ ⟨_, _, _, _, _, _, _, _, _, rfl, _⟩; rfl) fun _ _ _ s H vs Q E hr h => ?_
 obtain ⟨a, ns, k, p, lw, du, S, W, i, rfl, o, tu, wt, wl, hi, q⟩ := h
 have hu := QC hr
 refine ⟨_, (Qc (Qq (i := 5) Q8.nd rfl (Or.inl rfl) (qc D2_ hr (Qa (pv 0) (Qa (pv 1) Qe))))
  (Qc (Qq (i := 6) Q8.nd rfl (Or.inl rfl) (qm0 M3_ (pv 2) T.cl hr))
  (Qc (Qq (i := 7) Q8.nd rfl (Or.inl rfl) (Qan (Qa (Qz QV (Qz QaG (pv 5) Qi) Qi) (Qa Qi Qe))))
  (Qc (QZ (Qp Qjs (Qy Qt (by rfl) T.g_len PySem.boot_len (Qa (pv 6) Qe)) Qi (QF _)) (Qh (Qq (i := 7) Q8.nd rfl (Or.inl rfl) (Qan (Qa (QG Q7 (pv 7) Qi (fun _ _ => rfl)) (Qa (QG QI (pv 6) (Qz QV (Qz QaG (pv 5) Qi) (Qy Qt (by rfl) T.g_len PySem.boot_len (Qa (pv 6) Qe))) (fun _ _ => rfl)) Qe))))) Qn)
  (Qc (Qq (i := 8) Q8.nd rfl (Or.inl rfl) (Qz QV (pv 5) Qi))
  (Qc (QZ (PW.pt (QgZ (Qp QaJ (pv 8) Qi (QF _)) (QgZ (Qp (Qf1 hr.units) (pv 7) (pv 3) rfl) (QgA (Qp Qjs (Qy Qt (by rfl) T.g_len PySem.boot_len (Qa (pv 6) Qe)) Qi (QF _)))))) (Qc (Qk (qm M4_ (pv 2) T.cl hr (Qa (QG Q7 (pv 7) Qi (fun _ _ => rfl)) (Qa (QG Q7 (pv 7) Qi (fun _ _ => rfl)) Qe))))
  (Qh (Qk (QcF PySem.F.plainAttrs_list PySem.F.slot_list_append PySem.F.type_list_append Qaf (pv 3) (Qa (pv 7) Qe))))) Qn)
  (Qc (QZ (PW.pt (QgZ (Qp QaJ (pv 8) Qi (QF _)) (QgA (Qp (op_inT hr.units) (pv 7) (pv 3) rfl)))) (Qc (Qk (qm M5_ (pv 2) T.cl hr (Qa (QG Q7 (pv 7) Qi (fun _ _ => rfl)) (Qa (QG Q7 (pv 7) Qi (fun _ _ => rfl)) Qe))))
  (Qh (Qk (QcF PySem.F.plainAttrs_list PySem.F.slot_list_remove PySem.F.type_list_remove (QeZ hr.units) (pv 3) (Qa (pv 7) Qe))))) Qn)
  (Qc (QZ (Qp QaJ (pv 8) Qi (QF _)) (Qh (Qk (qm M6_ (pv 2) T.cl hr (Qa (QG Q7 (pv 7) Qi (fun _ _ => rfl)) (Qa (QG QI (ZR (Qa QcD (Qa (Qan (Qa Z1 (Qa (QG Q7 (pv 7) Qi (fun _ _ => rfl)) Qe))) Qe))) (QcE QiV (by rfl) T.g_int PyProof.Rows.boot_int (Qa (Qj1 (Qee QaJ (Qz QV (Qz QaG (pv 5) Qi) Qi) Qi (QF _)) (Qj0 (Qee Qjs (Qy Qt (by rfl) T.g_len PySem.boot_len (Qa (pv 6) Qe)) Qi (QF _)))) Qe)) (fun _ _ => rfl)) Qe))))) Qn)
  (Qc (QZ (Qp QaJ (pv 8) Qi (QF _)) (Qc (Qq (i := 9) Q8.nd rfl (Or.inl rfl) (qc D7_ hr (Qa (pv 2) Qe)))
  (Qh (Qs (qc D8_ hr (Qa (QG Q7 (Qid J1_ hr (by rfl) n1_ k1_ (c1_ [.none] (by simp)) QjN QgC (Qa (pv 2) Qe)) Qi (fun _ _ => rfl)) (Qa (pv 9) (Qa (pv 3) (Qa (pv 4) Qe)))))))) Qn)
  (Qc (QZ (PW.pt (QgZ (Qp QaJ (pv 8) Qi (QF _)) (QgA (Qp Qjs (Qy Qt (by rfl) T.g_len PySem.boot_len (Qa (QG QI (pv 4) (QG Q7 (pv 7) Qi (fun _ _ => rfl)) (fun _ _ => rfl)) Qe)) Qi (QF _))))) (Qh (Qs (Qee QaJ (qm M9_ (pv 2) T.cl hr (Qa (QG Q7 (pv 7) Qi (fun _ _ => rfl)) (Qa (Qz QV (Qz QaG (pv 5) Qi) Qi) Qe))) (QcF PySem.F.plainAttrs_list PySem.F.slot_list_pop PySem.F.type_list_pop Qg7 (QG QI (pv 4) (QG Q7 (pv 7) Qi (fun _ _ => rfl)) (fun _ _ => rfl)) (Qa Qi Qe)) (QF _)))) Qn)
  (Qh (Qs Qdr)))))))))))), ?_⟩
 obtain ⟨A0, hh⟩ := o.house (i := 2) (C := C) rfl
 have okW := tu.ok
 have few := okW.few
 have sl4 := tu.sl
 have few40 := tu.few
 have ndS := hh.nm
 refine ⟨_, rfl, _, rfl, a, ns, k, rfl, o.scr (i := 3) rfl, ?_⟩
 generalize drw ns k = c
 refine ⟨_, rfl, p, A0.dx, _, rfl, hh.ob, Ql, p, A0, S, rfl, hh, few, fun ln hln => ?_⟩
 have o1 : Own (upd H ln (.lst ((names S).map V.int))) (Qhl ln ((names S).map V.int) :: Qfb K C lw du p a ns S W) := o.new hln ⟨Qb, rfl⟩
 generalize upd H ln (.lst ((names S).map V.int)) = H1 at o1 ⊢
 have hg1 := Int.emod_nonneg (c / 5) (show (4 : Int) ≠ 0 by decide)
 have hg2 := Int.emod_lt_of_pos (c / 5) (show (0 : Int) < 4 by decide)
 obtain ⟨g, hg⟩ : ∃ g : Nat, c / 5 % 4 = (g : Int) := ⟨(c / 5 % 4).toNat, by omega⟩
 have hg4 : g < 4 := by omega
 refine ⟨_, rfl, _, _, rfl, rfl, ⟨by decide, by decide⟩, _, _, rfl, rfl, (by show (0 : Int) < 4; decide), zl, fun w0 hw0 => ?_⟩
 dsimp only
 rw [hg]
 have o2 := o1.same (Same.new (o := .tup [V.int (g : Int), V.int 0]) hw0)
 have t2 : (upd H1 w0 (.tup [V.int (g : Int), V.int 0])) w0 = some (.tup [V.int (g : Int), V.int 0]) := Qb
 generalize upd H1 w0 (.tup [V.int (g : Int), V.int 0]) = H2 at o2 t2 ⊢
 have hl2 := o2.lst (i := 0) rfl
 have lnS : ((names S).map V.int).length = S.boxes.length := by simp [names]
 refine ⟨_, rfl, ln, _, rfl, .inl (SqL.of hl2), _, _, rfl, rfl, _, rfl, QdI (fun hp => ?na) (fun hp => ?nb)⟩
 case' na =>
  have hp : (0 : Int) < (((names S).map V.int).length : Int) := of_decide_eq_true hp
  have g1 := Int.emod_nonneg (c / 20) (show (((names S).map V.int).length : Int) ≠ 0 by omega)
  have g2 := Int.emod_lt_of_pos (c / 20) hp
  obtain ⟨j, hj⟩ : ∃ j : Nat, c / 20 % (((names S).map V.int).length : Int) = (j : Int) := ⟨(c / 20 % (((names S).map V.int).length : Int)).toNat, by omega⟩
  have hjl : j < S.boxes.length := by omega
  have hat : atI ((names S).map V.int) (j : Int) = some (V.int S.boxes[j].name) := Zh (by rw [List.getElem?_map]; unfold names; rw [List.getElem?_map, List.getElem?_eq_getElem hjl]; rfl)
  have hnm : 0 < S.boxes.length → S.boxes[j].name ∈ names S := fun _ => List.mem_map.mpr ⟨_, List.getElem_mem hjl, rfl⟩
  refine ⟨_, rfl, w0, _, 0, .int (g : Int), rfl, rfl, SqT.of t2, rfl, _, rfl, _, rfl, _, _, rfl, rfl, ⟨by decide, by decide⟩, _, rfl, ln, _, rfl, .inl (SqL.of hl2), _, _, rfl, rfl, hp, ?_⟩
  dsimp only
  rw [hj]
  refine ⟨ln, _, _, _, rfl, rfl, SqL.of hl2, hat, zl, fun w1 hw1 => ?_⟩
  generalize S.boxes[j].name = n' at hnm hw1
  have o3 := o2.same (Same.new (o := .tup [V.int (g : Int), V.int n']) hw1)
  have t3 : (upd H2 w1 (.tup [V.int (g : Int), V.int n'])) w1 = some (.tup [V.int (g : Int), V.int n']) := Qb
  generalize upd H2 w1 (.tup [V.int (g : Int), V.int n']) = H3 at o3 t3 ⊢
 case' nb =>
  obtain ⟨n', hn'⟩ : ∃ n' : Int, n' = 0 := ⟨0, rfl⟩
  have hnm : 0 < S.boxes.length → n' ∈ names S := fun z => absurd (decide_eq_true (show (0 : Int) < (((names S).map V.int).length : Int) by omega)) hp
  have o3 := o2
  have t3 := t2
  rw [← hn'] at t3
  generalize H2 = H3 at o3 t3 ⊢
  generalize w0 = w1 at t3 ⊢
 all_goals
  refine ⟨_, rfl, _, _, rfl, rfl, (by show (0 : Int) < 5; decide), ?_⟩
  dsimp only
  have hw5 : 0 ≤ c % 5 ∧ c % 5 < 5 := ⟨Int.emod_nonneg _ (by decide), Int.emod_lt_of_pos _ (by decide)⟩
  have no : ∀ {m : Int}, c % 5 ≠ m → decide (V.int (c % 5) = V.int m) = false := fun z => decide_eq_false fun e => z (V.int.inj e)
  have yes : ∀ {m : Int}, c % 5 = m → decide (V.int (c % 5) = V.int m) = true := fun z => decide_eq_true (by rw [z])
  have hl3 := o3.lst (i := 0) rfl
  obtain ⟨as3, ⟨hlw3, hp3⟩, _⟩ := o3.wordsRem (i := 1) rfl
  obtain ⟨A3, hh3, out3⟩ := o3.houseOut (i := 3) (C := C) rfl
  have hqg := wt.q g hg4
  have hql := Qc3 hqg
  clear o1 o2 hl2 t2
  by_cases v0 : c % 5 = 0
  ·refine ⟨_, rfl, rfl, _, rfl, iteA (yes v0) ?_⟩
   refine ⟨_, rfl, _, rfl, w1, lw, (g, n'), W, as3, rfl, rfl, t3, hlw3, hp3, _, rfl, QdI (fun hn => ?_) (fun _ => ?_)⟩
   ·have hn : (g, n') ∉ W := fun z => by
     have hn : (!decide ((g, n') ∈ W)) = true := hn
     rw [decide_eq_true z] at hn
     cases hn
    refine ⟨_, rfl, ln, _, rfl, .inl (SqL.of hl3), _, _, rfl, rfl, _, rfl, QdI (fun hp2 => ?_) (fun _ => ?_)⟩
    ·have hpos : 0 < S.boxes.length := by
      have : (0 : Int) < (((names S).map V.int).length : Int) := of_decide_eq_true hp2
      omega
     have hns : n' ∉ sel W g := fun z => hn (Qfg.mp z)
     refine ⟨_, rfl, p, A3.dx, _, rfl, hh3.ob, Ql, _, rfl, w1, _, 0, .int (g : Int), rfl, rfl, SqT.of t3, rfl, _, rfl, w1, _, 1, .int n', rfl, rfl, SqT.of t3, rfl, p, A3, S, g, n', sel W g, rfl, hh3, hg4, hqg, hnm hpos, hns, by omega, fun A4 H4 hh4 fr4 tu4 gr4 => ?_⟩
     have o4 : Own H4 (Qhl ln ((names S).map V.int) :: Zi lw W :: QfX du S.told :: Qam C p (S.watch g (sel W g) n') :: [Qhk K a ns]) := out3 A4 H4 _ hh4 fr4 tu4 gr4
     have t4 := tu4 _ _ t3
     obtain ⟨as4, ⟨hlw4, hp4⟩, add4⟩ := o4.wordsAdd (i := 1) rfl
     have hal4 := pr_len hp4
     refine ⟨_, rfl, .inl ⟨rfl, _, SqL.of hlw4⟩, _, rfl, lw, _, _, rfl, rfl, hlw4, QK (by rw [List.length_map]; omega), ?_⟩
     exact ⟨_, rfl, rfl, _, rfl, QbS (no (by omega)) ⟨_, rfl, rfl, _, rfl, QbS (no (by omega)) ⟨_, rfl, rfl, _, rfl, QbS (no (by omega)) ⟨_, rfl, rfl, _, rfl, QbS (no (by omega)) (q _ _ _ (tu.watch hi hqg (hnm hpos) hns) (wt.add hg4 hn) (by rw [List.length_append]; simp only [List.length_singleton]; omega) (add4 w1 (g, n') t4).tail)⟩⟩⟩⟩
    ·exact ⟨_, rfl, rfl, _, rfl, QbS (no (by omega)) ⟨_, rfl, rfl, _, rfl, QbS (no (by omega)) ⟨_, rfl, rfl, _, rfl, QbS (no (by omega)) ⟨_, rfl, rfl, _, rfl, QbS (no (by omega)) (q _ _ _ tu.more wt (by omega) o3.tail)⟩⟩⟩⟩
   ·exact ⟨_, rfl, rfl, _, rfl, QbS (no (by omega)) ⟨_, rfl, rfl, _, rfl, QbS (no (by omega)) ⟨_, rfl, rfl, _, rfl, QbS (no (by omega)) ⟨_, rfl, rfl, _, rfl, QbS (no (by omega)) (q _ _ _ tu.more wt (by omega) o3.tail)⟩⟩⟩⟩
  refine ⟨_, rfl, rfl, _, rfl, QbS (no v0) ?_⟩
  by_cases v1 : c % 5 = 1
  ·refine ⟨_, rfl, rfl, _, rfl, iteA (yes v1) ?_⟩
   refine ⟨_, rfl, _, rfl, w1, lw, (g, n'), W, as3, rfl, rfl, t3, hlw3, hp3, _, rfl, QdI (fun hn => ?_) (fun _ => ?_)⟩
   ·have hn : (g, n') ∈ W := of_decide_eq_true hn
    have hns : n' ∈ sel W g := Qfg.mpr hn
    have hnn : n' ∈ names S := okW.q.nm _ (List.mem_of_getElem? hqg) n' hns
    refine ⟨_, rfl, p, A3.dx, _, rfl, hh3.ob, Ql, _, rfl, w1, _, 0, .int (g : Int), rfl, rfl, SqT.of t3, rfl, _, rfl, w1, _, 1, .int n', rfl, rfl, SqT.of t3, rfl, p, A3, S, g, n', sel W g, rfl, hh3, hg4, hqg, hnn, hns, fun A4 H4 hh4 fr4 tu4 gr4 => ?_⟩
    have o4 : Own H4 (Qhl ln ((names S).map V.int) :: Zi lw W :: QfX du S.told :: Qam C p (S.left g (sel W g) n') :: [Qhk K a ns]) := out3 A4 H4 _ hh4 fr4 tu4 gr4
    have t4 := tu4 _ _ t3
    obtain ⟨as4, ⟨hlw4, hp4⟩, rem4⟩ := o4.wordsRem (i := 1) rfl
    refine ⟨_, rfl, .inl ⟨rfl, _, SqL.of hlw4⟩, _, rfl, lw, w1, (g, n'), W, as4, rfl, rfl, t4, hlw4, hp4, hn, ?_⟩
    exact ⟨_, rfl, rfl, _, rfl, QbS (no (by omega)) ⟨_, rfl, rfl, _, rfl, QbS (no (by omega)) ⟨_, rfl, rfl, _, rfl, QbS (no (by omega)) (q _ _ _ (tu.left hi hqg) (wt.rem hg4) (by have := (List.erase_sublist (a := (g, n')) (l := W)).length_le; omega) (rem4 _ hn).tail)⟩⟩⟩
   ·exact ⟨_, rfl, rfl, _, rfl, QbS (no (by omega)) ⟨_, rfl, rfl, _, rfl, QbS (no (by omega)) ⟨_, rfl, rfl, _, rfl, QbS (no (by omega)) (q _ _ _ tu.more wt (by omega) o3.tail)⟩⟩⟩
  refine ⟨_, rfl, rfl, _, rfl, QbS (no v1) ?_⟩
  by_cases v2 : c % 5 = 2
  ·refine ⟨_, rfl, rfl, _, rfl, iteA (yes v2) ?_⟩
   have QeI : ∀ {H5 : Hp} {j : Nat} {t : LW.T}, t.In (names S) → Own H5 (Qhl ln ((names S).map V.int) :: Zi lw W :: QfX du S.told :: Qam C p (S.hold j t) :: [Qhk K a ns]) → Q (.bl true) H5 := fun hin o5 => q _ _ _ (tu.hold hin) (wt.of rfl) (by omega) o5.tail
   refine ⟨_, rfl, p, A3.dx, _, rfl, hh3.ob, Ql, _, rfl, w1, _, 0, .int (g : Int), rfl, rfl, SqT.of t3, rfl, _, rfl, w1, _, 1, .int n', rfl, rfl, SqT.of t3, rfl, zl, fun tb htb => ⟨zl, fun l5 hl5 => ?_⟩⟩
   have s5 : Same H3 (upd (upd H3 tb (.tup [V.str "box", V.int n'])) l5 (.lst [V.non, V.ref tb])) := (Same.new htb).trans (Same.new hl5)
   have tb5 : (upd (upd H3 tb (.tup [V.str "box", V.int n'])) l5 (.lst [V.non, V.ref tb])) tb = some (.tup [V.str "box", V.int n']) := Zt Qb hl5
   have l55 : (upd (upd H3 tb (.tup [V.str "box", V.int n'])) l5 (.lst [V.non, V.ref tb])) l5 = some (.lst [V.non, V.ref tb]) := Qb
   generalize upd (upd H3 tb (.tup [V.str "box", V.int n'])) l5 (.lst [V.non, V.ref tb]) = H5 at s5 tb5 l55 ⊢
   have o5 := o3.same s5
   have hl5' := o5.lst (i := 0) rfl
   obtain ⟨A5, hh5, out5⟩ := o5.houseOut (i := 3) (C := C) rfl
   refine ⟨_, rfl, _, _, rfl, rfl, ⟨by decide, by decide⟩, _, _, rfl, rfl, (by show (0 : Int) < 4; decide), rfl, _, rfl, QdI (fun _ => ?_) (fun hz => ?_)⟩
   ·refine ⟨_, rfl, ln, _, rfl, .inl (SqL.of hl5'), _, _, rfl, rfl, ?_⟩
    by_cases hpos : 0 < S.boxes.length
    ·have e1 : decide ((0 : Int) < (((names S).map V.int).length : Int)) = true := decide_eq_true (by omega)
     have hin : LW.T.In (.box n') (names S) := fun m e => by cases e; exact hnm hpos
     refine .inr ⟨_, rfl, l5, _, _, V.ref tb, rfl, rfl, SqL.of l55, ?_, p, A5, S, g, .ref tb, .box n', rfl, hh5, by omega, ⟨tb, rfl, tb5⟩, hin, fun A6 H6 hh6 fr6 tu6 gr6 => ?_⟩
     ·rw [e1]; rfl
     ·exact ⟨_, rfl, rfl, _, rfl, QbS (no (by omega)) ⟨_, rfl, rfl, _, rfl, QbS (no (by omega)) (QeI hin (out5 A6 H6 _ hh6 fr6 tu6 gr6))⟩⟩
    ·have e1 : decide ((0 : Int) < (((names S).map V.int).length : Int)) = false := decide_eq_false (by omega)
     have hin : LW.T.In .non (names S) := fun m e => by cases e
     refine .inr ⟨_, rfl, l5, _, _, V.non, rfl, rfl, SqL.of l55, ?_, p, A5, S, g, .non, .non, rfl, hh5, by omega, rfl, hin, fun A6 H6 hh6 fr6 tu6 gr6 => ?_⟩
     ·rw [e1]; rfl
     ·exact ⟨_, rfl, rfl, _, rfl, QbS (no (by omega)) ⟨_, rfl, rfl, _, rfl, QbS (no (by omega)) (QeI hin (out5 A6 H6 _ hh6 fr6 tu6 gr6))⟩⟩
   ·have hin : LW.T.In .non (names S) := fun m e => by cases e
    refine .inr ⟨_, rfl, l5, _, _, V.non, rfl, rfl, SqL.of l55, ?_, p, A5, S, g, .non, .non, rfl, hh5, by omega, rfl, hin, fun A6 H6 hh6 fr6 tu6 gr6 => ?_⟩
    ·rfl
    ·exact ⟨_, rfl, rfl, _, rfl, QbS (no (by omega)) ⟨_, rfl, rfl, _, rfl, QbS (no (by omega)) (QeI hin (out5 A6 H6 _ hh6 fr6 tu6 gr6))⟩⟩
  refine ⟨_, rfl, rfl, _, rfl, QbS (no v2) ?_⟩
  by_cases v3 : c % 5 = 3
  ·refine ⟨_, rfl, rfl, _, rfl, iteA (yes v3) ?_⟩
   refine ⟨_, rfl, p, A3, S, rfl, hh3, okW, sl4, by omega, fun d hs H4 s4 n4 h4 hheld => ?_⟩
   have o4 : Own H4 (QjZ d (Q5 hs) :: Qhl ln ((names S).map V.int) :: Qfb K C lw du p a ns S W) := o3.add s4 (F := [d]) ⟨h4, rfl⟩ (by simp) (by simpa using n4)
   obtain ⟨A4, hh4, fin4⟩ := o4.houseAdd (i := 4) (C := C) rfl
   refine ⟨_, rfl, p, A4, S, none, rfl, hh4, okW, (fun n e => by cases e), fun A5 H5 hA hB S' v l1 l2 l3 l4 as5 sw u5 told5 gr5 no5 nd5 => ⟨v, _, 3, .ref l4, rfl, rfl, SqT.of told5.tu, rfl, _, rfl, _, rfl, _, rfl, ?_⟩⟩
   have one : ∀ b ∈ [l4], b ∈ [l1, l2, l3, l4] := fun b hb => by
    have hb : b = l4 := by simpa using hb
    simp [hb]
   have o5 : Own H5 [Zi l4 (Qx hA S 4), QjZ d (Q5 hs), Qhl ln ((names S).map V.int), Zi lw W, QfX du S.told, Qam C p S', Qhk K a ns] := fin4 A5 H5 S' (Zi l4 (Qx hA S 4)) [l4] u5 ⟨as5, told5.ws, rfl⟩ (by simp) (fun b hb => gr5 b (one b hb)) (fun b hb => no5 b (one b hb))
   have o6 : Own H5 [Zi lw W, QfX du S.told, Zi l4 (Qx hA S 4), QjZ d (Q5 hs), Qhl ln ((names S).map V.int), Qam C p S', Qhk K a ns] := (o5.front (i := 4) rfl).front (i := 4) rfl
   have wlen := QfM (hs := hA) (S := S) 4
   rw [List.take_of_length_le (by have := okW.q.q4; omega)] at wlen
   refine ⟨l4, d, lw, du, Qx hA S 4, hs, W, S.told, [Qhl ln ((names S).map V.int), Qam C p S', Qhk K a ns], rfl, o6, wt.nd, QgS okW.q.un 4, fun x hx => ?_, okW.q.t4, by omega, fun H6 o7 => ?_⟩
   ·obtain ⟨h1, h2, h3⟩ := wt.words (hA := hA) x hx
    exact ⟨h1, h2, fun z => h3 ((sw.a2 _).mpr (hheld _ z))⟩
   ·rw [Qjb sw okW] at o7
    have wr := Qkt W (Qx hA S 4) wt.nd
    exact q _ _ _ (tu.swept sw ndS) (wt.swept sw okW) (by omega) ((((o7.front (i := 2) rfl).tail.front (i := 2) rfl).tail).front (i := 2) rfl).tail
  refine ⟨_, rfl, rfl, _, rfl, QbS (no v3) ⟨_, rfl, rfl, _, rfl, iteA (yes (by omega)) ?_⟩⟩
  obtain ⟨ts, hts⟩ : ∃ ts, S.told[g]? = some ts := ⟨_, List.getElem?_eq_getElem (by rw [okW.q.t4]; exact hg4)⟩
  obtain ⟨al, b, hdu, hix, hib, _⟩ := o3.llsPut (i := 2) rfl hts
  refine ⟨_, rfl, _, rfl, w1, _, 0, .int (g : Int), rfl, rfl, SqT.of t3, rfl, du, _, _, .ref b, rfl, rfl, SqL.of hdu, hix, b, _, rfl, .inl (SqL.of hib), _, _, rfl, rfl, _, rfl, QdI (fun hp2 => ?_) (fun _ => ?_)⟩
  ·have hp2 : (0 : Int) < ((ts.map V.int).length : Int) := of_decide_eq_true hp2
   obtain ⟨n0, ms, rfl⟩ : ∃ n0 ms, ts = n0 :: ms := by
    cases ts with
    | nil => exact absurd hp2 (by decide)
    | cons n0 ms => exact ⟨n0, ms, rfl⟩
   have hj1 := Int.emod_nonneg (c / 100) (show (4 : Int) ≠ 0 by decide)
   have hj2 := Int.emod_lt_of_pos (c / 100) (show (0 : Int) < 4 by decide)
   obtain ⟨j, hj⟩ : ∃ j : Nat, c / 100 % 4 = (j : Int) := ⟨(c / 100 % 4).toNat, by omega⟩
   refine ⟨_, rfl, p, A3.dx, _, rfl, hh3.ob, Ql, _, rfl, w1, _, 0, .int (g : Int), rfl, rfl, SqT.of t3, rfl, _, rfl, _, _, rfl, rfl, ⟨by decide, by decide⟩, _, _, rfl, rfl, (by show (0 : Int) < 4; decide), p, A3, S, g, j, n0, ms, by rw [← hj]; rfl, hh3, hg4, hts, by omega, fun A4 H4 hh4 fr4 tu4 gr4 => ?_⟩
   have o4 : Own H4 (Qhl ln ((names S).map V.int) :: Zi lw W :: QfX du S.told :: Qam C p (S.taken g ms j n0) :: [Qhk K a ns]) := out3 A4 H4 _ hh4 fr4 tu4 gr4
   have t4 := tu4 _ _ t3
   obtain ⟨al4, b4, hdu4, hix4, hib4, put4⟩ := o4.llsPut (i := 2) rfl hts
   refine ⟨_, rfl, _, rfl, w1, _, 0, .int (g : Int), rfl, rfl, SqT.of t4, rfl, du, _, _, .ref b4, rfl, rfl, SqL.of hdu4, hix4, .inl ⟨rfl, _, SqL.of hib4⟩, b4, _, 0, 0, .int n0, rfl, rfl, hib4, by decide, by decide, by simp [seqIndex?], rfl, rfl, ?_⟩
   have e1 : decide (V.int n0 = V.int n0) = true := decide_eq_true rfl
   rw [e1]
   exact q _ _ _ (tu.taken hi hts) (wt.of rfl) (by omega) (put4 ms).tail
  ·exact q _ _ _ tu.more wt (by omega) o3.tail
end
theorem Qjg {W : List (Nat × Int)} {g i : Nat} {x : Nat × Int} (h : W[i]? = some x) : sel (W.take (i + 1)) g = sel (W.take i) g ++ if x.1 = g then [x.2] else [] := by
 rw [List.take_add_one, h]
 unfold sel
 rw [List.filter_append, List.map_append]
 congr 1
 by_cases e : x.1 = g
 ·simp [e]
 ·have z : (x.1 == g) = false := beq_eq_false_iff_ne.mpr e
  simp [e, z]
theorem Qkr {W : List (Nat × Int)} {g : Nat} : (sel W g).length ≤ W.length := by
 unfold sel
 rw [List.length_map]
 exact List.length_filter_le _ _
section
variable {C CS : Addr}
def Qjf (K : Fg) : Sp := fun vs H Q _ => ∃ (a : Addr) (ns : List Int), vs = [.ref a] ∧ Scr K H a ns ∧ ns.length ≤ 63 ∧ ∀ H', Q (.bl true) H'
theorem Qhz : QD (Qg QaE) ["script", "many", "made", "house", "wait", "due", "k", "guard", "waits"] (QP ((cmpR 0 (boolAt 1 (ifTest (QeR (QeA (QeR (QeA (QeR (Qo QaE) 5)) 1)) 1)))))) "word" ["guard"] [7] :=
 bsk
theorem Qjt {f : Addr} (F : Fun K "law" "law" QaE f fd) (T : TX K mg C) (D1_ : DefOk P w K mg base n "_law_many" ["script"] (QhT K) [[]])
  (D2_ : DefOk P w K mg base n "_law_graph" ["script", "many"] (Qh1 K) [[]])
  (D3_ : DefOk P w K mg base n "_law_house" ["kinds", "rows", "slots", "extra"] (QhX C) [[]])
  (D4_ : DefOk P w K mg base n "_law_slots" ["script", "count", "many"] (QhQ K) [[]])
  (D5_ : DefOk P w K mg base n "_law_draw" ["script", "k"] (Qcj K) [[]])
  (D6_ : DefOk P w K mg base n "_law_turn" ["script", "k", "house", "wait", "due"] (QjQ K C) [[]])
  (M7_ : MethOk P w K mg base C n "waiting" ["self", "guard"] (QdT C) [[]])
  (M8_ : MethOk P w K mg base C n "words" ["self", "guard"] (Qgt C) [[]]) :
  FnOk P w K mg base CX0 (n + 1) f fd ["script"] (Qjf K) := by
 refine F.ok Qap (by rintro _ _ _ _ ⟨_, _, rfl, _⟩; rfl) fun _ _ _ s H vs Q E hr h => ?_
 obtain ⟨a, ns, rfl, hS, hlen, q⟩ := h
 have hu := QC hr
 refine ⟨_, (Qc (Qq (i := 1) Qap.nd rfl (Or.inl rfl) (qc D1_ hr (Qa (pv 0) Qe)))
  (Qc (Qq (i := 2) Qap.nd rfl (Or.inl rfl) (qc D2_ hr (Qa (pv 0) (Qa (pv 1) Qe))))
  (Qc (Qq (i := 3) Qap.nd rfl (Or.inl rfl) (qc D3_ hr (Qa (QG Q7 (pv 2) Qi (fun _ _ => rfl)) (Qa (QG Q7 (pv 2) Qi (fun _ _ => rfl)) (Qa (qc D4_ hr (Qa (pv 0) (Qa Qi (Qa (pv 1) Qe)))) (Qa Qi Qe))))))
  (Qc (Qq (i := 4) Qap.nd rfl (Or.inl rfl) (ZR Qe))
  (Qc (Qq (i := 5) Qap.nd rfl (Or.inl rfl) (ZR (Qa (ZR Qe) (Qa (ZR Qe) (Qa (ZR Qe) (Qa (ZR Qe) Qe))))))
  (Qc (Za PassesOwn.never rfl (Zb (by rfl) T.g_range (Qa (Qz QV (qc D5_ hr (Qa (pv 0) (Qa Qi Qe))) Qi) Qe)) (QS (i := 6) Qap.nd rfl (Or.inl rfl))
  (Qc (QZ (QfY (Qch (qc D6_ hr (Qa (pv 0) (Qa (Qz QaH Qi (Qz Qf2 Qi (pv 6))) (Qa (pv 3) (Qa (pv 4) (Qa (pv 5) Qe)))))))) (Qh (Qs Qdr)) Qn)
  (Qh (Za PassesOwn.never rfl (Zb (by rfl) T.g_range (Qa Qi Qe)) (QS (i := 7) Qap.nd rfl (Or.inr rfl))
  (Qc (Qq (i := 8) Qap.nd rfl (Or.inl rfl) (qm M7_ (pv 3) T.cl hr (Qa (pv 7) Qe)))
  (Qh (QZ (PW.pt (Qfj (Qp (Qj6 hr.units) (qm M8_ (pv 3) T.cl hr (Qa (pv 7) Qe)) (QG QI (pv 5) (pv 7) (fun _ _ => rfl)) (QF _)) (Qec (Qp (Qj6 hr.units) (pv 8) (QaZ Qhz rfl (QR (pv 4)) (fun _ _ _ _ => (Qbi (Qp QaJ (QG (QfA (K' := K) rfl) (pv 0) Qi (fun _ _ => rfl)) (pv 1) (QF _)))) (fun _ _ _ _ => (QG (QfA (K' := K) rfl) (pv 0) Qi (fun _ _ => rfl)))) (QF _))))) (Qh (Qs Qdr)) Qn)))))))
  (Qh (Qs Qdr)))))))), ?_⟩
 have o0 : Own H [Qhk K a ns] := (Own.nil H).imm ⟨hS, rfl⟩
 refine ⟨_, rfl, a, ns, rfl, hS, fun many hm1 hm40 => ?_⟩
 refine ⟨_, rfl, _, rfl, a, ns, many, rfl, hS, hm1, by omega, fun m ak ar bs H1 s1 hm hR hnm hok => ?_⟩
 obtain ⟨F1, on1, nd1, fr1⟩ := hR.on
 have o1 : Own H1 [rTup m [.ref ak, .ref ar], rRec ak ar bs, Qhk K a ns] := (o0.add s1 on1 nd1 fr1).imm ⟨hm, rfl⟩
 have hbl : (bs.length : Int) = many := by
  have := congrArg List.length hnm
  rw [QJ, List.length_map] at this
  omega
 have hnm' : bs.map (·.name) = QH 1 bs.length := by rw [hnm]; congr 1; omega
 rw [← hbl] at hok
 have hm1' := o1.tup (i := 0) rfl
 refine ⟨_, rfl, m, _, 0, .ref ak, rfl, rfl, SqT.of hm1', rfl, _, rfl, m, _, 1, .ref ar, rfl, rfl, SqT.of hm1', rfl, _, rfl, _, rfl, a, ns, 4, many, rfl, o1.scr (i := 2) rfl, by decide, by decide, hm1, fun as ts H2 s2 fas hth htl hts => ?_⟩
 have o2 := o1.same s2
 obtain ⟨fl, hk, hr', pf⟩ := o2.rec (i := 1) rfl
 rw [← hbl] at hts
 refine ⟨ak, ar, as, fl, bs, ts, 0, rfl, hk, hr', pf, hth, hnm', by omega, hok, by omega, by omega, hts, by decide, fun p A3 H3 s3 hh3 f3 => ?_⟩
 obtain ⟨S, hSe⟩ : ∃ S : HS, S = ⟨bs.length + 0, ts, bs.length, bs, e4, e4⟩ := ⟨_, rfl⟩
 have o3 : Own H3 [Qam C p S, rTup m [.ref ak, .ref ar], rRec ak ar bs, Qhk K a ns] := by rw [hSe]; exact o2.houseNew hh3 (Frame.of_same s3) f3
 have okW : S.OkW := by
  rw [hSe]
  refine QkG (n := bs.length) hnm' hok hts rfl (by omega) rfl fun xs hx => ?_
  have : xs = [] := by simpa [e4] using hx
  subst this
  exact ⟨List.nodup_nil, by simp, fun _ h => absurd h (by simp)⟩
 have eT : S.told = e4 := by rw [hSe]
 have eQ : S.queues = e4 := by rw [hSe]
 have tu0 : TurnAt S 0 := ⟨okW, by rw [hSe]; show ts.length = 4; omega, by rw [eT, eQ]; decide⟩
 have wt0 : WaitAt S [] := ⟨List.nodup_nil, fun w h => absurd h (by simp), fun g hg => by
  rw [eQ]
  match g, hg with
  | 0, _ => rfl
  | 1, _ => rfl
  | 2, _ => rfl
  | 3, _ => rfl⟩
 clear hh3 f3 o2 o1 hk hr' pf hm1' hSe
 refine ⟨Nat.zero_le _, fun lw hlw => ?_⟩
 have o4 := (o3.front (i := 3) rfl).new (r := Zi lw []) (o := .lst []) hlw ⟨[], ⟨Qb, .nil⟩, rfl⟩
 generalize upd H3 lw (.lst []) = H4 at o4 ⊢
 dsimp only [QiD, tSeq, tAsg]
 refine rdE4 fun du H5 s5 hL5 => ?_
 obtain ⟨F5, on5, nd5, fr5⟩ := hL5.on
 have o5 := o4.add s5 on5 nd5 fr5
 have o6 : Own H5 (Qfb K C lw du p a ns S []) := by
  show Own H5 [Zi lw [], QfX du S.told, Qam C p S, Qhk K a ns]
  rw [eT]
  exact (((((o5.front (i := 4) rfl).tail.front (i := 4) rfl).tail.front (i := 2) rfl).front (i := 3) rfl).front (i := 2) rfl).front (i := 3) rfl
 have g1 := Int.emod_nonneg (drw ns 900) (show (13 : Int) ≠ 0 by decide)
 have g2 := Int.emod_lt_of_pos (drw ns 900) (show (0 : Int) < 13 by decide)
 refine ⟨_, rfl, a, ns, 900, rfl, o6.scr (i := 3) rfl, _, _, rfl, rfl, (by show (0 : Int) < 13; decide), _, rfl, by omega, by omega, ?_⟩
 refine QaI (n := (drw ns 900 % 13).toNat) (fun i σ H' => ∃ (v_k v_guard v_waits : Option V) (S : HS) (W : List (Nat × Int)), σ = [some (.ref a), some (.int many), some (.ref m), some (.ref p), some (.ref lw), some (.ref du), v_k, v_guard, v_waits] ∧ TurnAt S i ∧ WaitAt S W ∧ W.length ≤ i ∧ Own H' (Qfb K C lw du p a ns S W)) ?_ ?_ ?_
 ·exact ⟨_, _, _, S, [], rfl, tu0, wt0, Nat.le_refl _, o6⟩
 ·clear tu0 wt0 okW eT eQ o6 o5 o4 o3
  rintro i σ H8 hi ⟨v1, v2, v3, S, W, rfl, tu, wt, wl, o8⟩
  refine ⟨_, rfl, _, rfl, _, _, rfl, rfl, .inl ⟨by decide, by decide⟩, _, _, rfl, rfl, _, rfl, _, rfl, _, rfl, a, ns, _, p, lw, du, S, W, i, rfl, o8, tu, wt, wl, by omega, fun H9 S' W' tu' wt' wl' o9 => ⟨_, rfl, Qbz ?_⟩⟩
  have okW := tu'.ok
  have few' := tu'.few
  refine ⟨4, rfl, by decide, by decide, ?_⟩
  refine QaI (lo := 0) (n := 4) (fun j σ H' => ∃ (v_k v_guard v_waits : Option V), σ = [some (.ref a), some (.int many), some (.ref m), some (.ref p), some (.ref lw), some (.ref du), v_k, v_guard, v_waits] ∧ Own H' (Qfb K C lw du p a ns S' W')) ?_ ?_ ?_
  ·exact ⟨_, _, _, rfl, o9⟩
  ·rintro g σ H10 hg ⟨u1, u2, u3, rfl, o10⟩
   rw [show (0 : Int) + (g : Int) = (g : Int) from Int.zero_add _]
   obtain ⟨A10, hh10⟩ := o10.house (i := 2) (C := C) rfl
   have hqg := wt'.q g hg
   obtain ⟨ts', hts'⟩ : ∃ ts, S'.told[g]? = some ts := ⟨_, List.getElem?_eq_getElem (by rw [okW.q.t4]; exact hg)⟩
   refine ⟨_, rfl, p, A10.dx, _, rfl, hh10.ob, Ql, _, rfl, p, A10, S', g, sel W' g, rfl, hh10, hg, hqg, fun la hla => ?_⟩
   have o11 : Own (upd H10 la (.lst ((sel W' g).map V.int))) (Qhl la ((sel W' g).map V.int) :: Qfb K C lw du p a ns S' W') := o10.new hla ⟨Qb, rfl⟩
   generalize upd H10 la (.lst ((sel W' g).map V.int)) = H11 at o11 ⊢
   obtain ⟨A11, hh11⟩ := o11.house (i := 3) (C := C) rfl
   refine ⟨_, rfl, p, A11.dx, _, rfl, hh11.ob, Ql, _, rfl, p, A11, S', g, ts', rfl, hh11, hg, hts', fun lb hlb => ?_⟩
   have o12 : Own (upd H11 lb (.lst (ts'.map V.int))) (Qhl lb (ts'.map V.int) :: Qhl la ((sel W' g).map V.int) :: Qfb K C lw du p a ns S' W') := o11.new hlb ⟨Qb, rfl⟩
   generalize upd H11 lb (.lst (ts'.map V.int)) = H12 at o12 ⊢
   obtain ⟨al, b, hdu, hix, hib, _⟩ := o12.llsPut (i := 3) rfl hts'
   have same : ∀ {H : Hp} {xs : List Int} (j : Nat) (x y : V), (xs.map V.int)[j]? = some x → (xs.map V.int)[j]? = some y → EqG H 8 x y true := fun j x y hx hy => by
    rw [hx] at hy
    have e := Option.some.inj hy
    subst e
    rw [List.getElem?_map] at hx
    obtain ⟨n, _, rfl⟩ := Option.map_eq_some_iff.mp hx
    exact .same rfl
   have allT : ∀ n : Nat, ((List.range n).all fun _ => true) = true := fun n => by simp
   refine ⟨_, rfl, _, rfl, du, _, _, .ref b, rfl, rfl, SqL.of hdu, hix, lb, b, _, _, fun _ => true, rfl, rfl, o12.lst (i := 0) rfl, hib, same, _, rfl, QbS (by rw [allT]; simp) ?_⟩
   have hla12 := o12.lst (i := 1) rfl
   obtain ⟨as12, o13⟩ := o12.wexp (i := 2) rfl
   have hwa := o13.wa (i := 2) rfl
   have hal := pr_len hwa.2
   refine ⟨_, rfl, _, rfl, lw, rfl, ⟨_, SqL.of hwa.1⟩, ?_⟩
   refine Z2 (K := K) (xs := as12.map V.ref) (fun j ys H' => H' = H12 ∧ ys = (sel (W'.take j) g).map V.int) ⟨rfl, rfl⟩ ?_ (by rw [List.length_map]; exact Zr (by omega)) ?_ ?_ ?_
   ·rintro j ys H' ⟨_, rfl⟩
    rw [List.length_map]
    exact Nat.le_trans Qkr (by rw [List.length_take]; omega)
   ·rintro j ys H' _ ⟨rfl, _⟩
    exact SqL.of hwa.1
   ·rintro j y ys H' hy ⟨rfl, rfl⟩
    have hjl : j < W'.length := by
     have := (List.getElem?_eq_some_iff.mp hy).1
     rw [List.length_map] at this
     omega
    have hwj := List.getElem?_eq_getElem hjl
    obtain ⟨c, hc, htc⟩ := Q6 hwa.2 hwj
    have ey : y = V.ref c := by
     rw [List.getElem?_map, hc] at hy
     exact (Option.some.inj hy).symm
    subst ey
    have est := Qjg (g := g) hwj
    generalize W'[j] = x at htc est
    refine ⟨_, rfl, c, _, 0, .int (x.1 : Int), rfl, rfl, SqT.of htc, rfl, _, rfl, rfl, _, rfl, QdI (fun he => ?_) (fun he => ?_)⟩
    ·have he : x.1 = g := by
      have := V.int.inj (of_decide_eq_true he)
      omega
     refine ⟨_, rfl, c, _, 1, .int x.2, rfl, rfl, SqT.of htc, rfl, rfl, ?_⟩
     rw [est, if_pos he, List.map_append]; rfl
    ·have he : ¬ x.1 = g := fun z => he (decide_eq_true (by rw [z]))
     exact ⟨rfl, by rw [est, if_neg he, List.append_nil]⟩
   ·rintro ys H' ⟨rfl, rfl⟩ lc hlc
    rw [List.length_map, ← hal, List.take_length]
    have o14 := o13.same (Same.new (o := .lst ((sel W' g).map V.int)) hlc)
    refine ⟨la, lc, _, _, fun _ => true, rfl, rfl, Zt hla12 hlc, Qb, same, _, rfl, QbS (by rw [allT]; simp) ?_⟩
    exact ⟨_, _, _, rfl, (o14.wunexp (i := 2) rfl).tail.tail⟩
  ·rintro σ H10 ⟨u1, u2, u3, rfl, o10⟩
   exact ⟨_, _, _, S', W', rfl, tu', wt', wl', o10⟩
 ·rintro σ H8 ⟨v1, v2, v3, S, W, rfl, tu, wt, wl, o8⟩
  exact q _
end
end LW
/-! The names below are taken, so that the head makes no second form (a twin) of the whole heap at each of its cuts: those forms are not needed, and would be two thirds of the compiled file. -/
def PySem.W.Fast.tw18006770306713554487 : Unit := ()
def PySem.W.Fast.tw11118703572955181424 : Unit := ()
def PySem.W.Fast.tw1762701866605517624 : Unit := ()
def PySem.W.Fast.tw4097861439394207048 : Unit := ()
def PySem.W.Fast.tw6481418650079475056 : Unit := ()
def PySem.W.Fast.tw13515771456308803120 : Unit := ()
def PySem.W.Fast.tw8395812157050816241 : Unit := ()
def PySem.W.Fast.tw368242049687034901 : Unit := ()
def PySem.W.Fast.tw7820469274530636930 : Unit := ()
def PySem.W.Fast.tw145345077160698097 : Unit := ()
def PySem.W.Fast.tw12672595404229241902 : Unit := ()
def PySem.W.Fast.tw9482975491777946780 : Unit := ()
def PySem.W.Fast.tw12665863921929026017 : Unit := ()
def PySem.W.Fast.tw12727282073343620261 : Unit := ()
def PySem.W.Fast.tw13336959631553136498 : Unit := ()
def PySem.W.Fast.tw4504493124092523014 : Unit := ()
def PySem.W.Fast.tw5976009425260368587 : Unit := ()
def PySem.W.Fast.tw8412652741679885872 : Unit := ()
def PySem.W.Fast.tw13161591352584791916 : Unit := ()
def PySem.W.Fast.tw12567225525010059401 : Unit := ()
def PySem.W.Fast.tw17554689302699647903 : Unit := ()
def PySem.W.Fast.tw9531861965206279762 : Unit := ()
def PySem.W.Fast.tw5164346040292278039 : Unit := ()
def PySem.W.Fast.tw15731703001678354515 : Unit := ()
def PySem.W.Fast.tw12741483285221173376 : Unit := ()
def PySem.W.Fast.tw13794184779002600191 : Unit := ()
def PySem.W.Fast.tw6176630319331400155 : Unit := ()
def PySem.W.Fast.tw8841236130282113900 : Unit := ()
def PySem.W.Fast.tw2587087424518407239 : Unit := ()
def PySem.W.Fast.tw15742937320351723609 : Unit := ()
def PySem.W.Fast.tw8303888260181760502 : Unit := ()
def PySem.W.Fast.tw10645957945375501610 : Unit := ()
def PySem.W.Fast.tw13765305947806711255 : Unit := ()
def PySem.W.Fast.tw9537669051293006757 : Unit := ()
def PySem.W.Fast.tw9377309639604951808 : Unit := ()
def PySem.W.Fast.tw11508485879836047118 : Unit := ()
def PySem.W.Fast.tw8670778144425891321 : Unit := ()
def PySem.W.Fast.tw12274215836754884436 : Unit := ()
def PySem.W.Fast.tw4979878586019361844 : Unit := ()
def PySem.W.Fast.tw18151595628457427191 : Unit := ()
def PySem.W.Fast.tw8460607477452186292 : Unit := ()
def PySem.W.Fast.tw7229072744628752604 : Unit := ()
def PySem.W.Fast.tw3752319502105050221 : Unit := ()
def PySem.W.Fast.tw17959022789305450233 : Unit := ()
def PySem.W.Fast.tw13870724897407668600 : Unit := ()
def PySem.W.Fast.tw17806651094565537551 : Unit := ()
def PySem.W.Fast.tw16259756111896843685 : Unit := ()
def PySem.W.Fast.tw1721383115522048641 : Unit := ()
def PySem.W.Fast.tw4545572913259707876 : Unit := ()
def PySem.W.Fast.tw9481646882405085142 : Unit := ()
def PySem.W.Fast.tw6737849245299574422 : Unit := ()
def PySem.W.Fast.tw11719762480389569762 : Unit := ()
def PySem.W.Fast.tw17278786313753277538 : Unit := ()
def PySem.W.Fast.tw7759634288509591529 : Unit := ()
def PySem.W.Fast.tw13467171010122509753 : Unit := ()
namespace LW
open PySem L2 PySem.W
def GD (K : Fg) (x : Str) (st : Stmt) : Prop := ∃ f fd, nsIn K mainGlobals x = some (some (.ref f)) ∧ Fun K x x st f fd
def MD (K : Fg) (C : Addr) (x q : Str) (st : Stmt) : Prop := ∃ f fd, findIn K (.ref C) x = some (some (.ref f)) ∧ isFn K (.ref f) = true ∧ Fun K x q st f fd
section
variable {K : Fg} {x q : Str} {st : Stmt} {f C : Addr} {oc : Value} {od an : Option Addr} {osl : Array (Option Value)} {kV doc pm cdv ct : Value}
theorem gd_mk (a : nsIn K mainGlobals x = some (some (.ref f))) (l : K.lookup f = some ⟨oc, od, .func (fnOf x x (QL st) (Qo st) (Qg st) .none kV doc pm an cdv ct), osl⟩) (c : codeIn K cdv x = true) (k : keepIn K (.ref f) = true) : GD K x st := ⟨f, _, a, QiE l c k⟩
theorem md_mk (a : findIn K (.ref C) x = some (some (.ref f))) (i : isFn K (.ref f) = true) (l : K.lookup f = some ⟨oc, od, .func (fnOf x q (QL st) (Qo st) (Qg st) .none kV doc pm an cdv ct), osl⟩) (c : codeIn K cdv q = true) (k : keepIn K (.ref f) = true) : MD K C x q st := ⟨f, _, a, i, QiE l c k⟩
def BO (x q : Str) (st : Stmt) (ps : List Str) : Prop := ∀ (kV doc pm : Value) (an : Option Addr) (cdv ct : Value) (us : List Value), us.length = ps.length → bindArgs (fnOf x q (QL st) (Qo st) (Qg st) .none kV doc pm an cdv ct) ⟨us, []⟩ = pure (ps.zip us)
variable {P : Program} {w : World} {mg : Str → Option Value} {base h : Heap} {k : Nat} {ps : List Str} {sp : Sp} {dss : List (List Value)}
theorem one1 {α : Type} {p : α → Prop} {x : α} (h : p x) : ∀ y ∈ [x], p y := fun y hy => by rw [List.mem_singleton.mp hy]; exact h
theorem GD.get (d : GD K x st) (X : K.In h) (G : h.Ns mainGlobals mg) (b : BO x x st ps) (ok : ∀ {f fd}, Fun K x x st f fd → FnOk P w K mg base CX0 k f fd ps sp) : DefOk P w K mg base k x ps sp [[]] := let ⟨f, fd, a, F⟩ := d; ⟨f, fd, mg_of X G a, F.kp, ok F, one1 (F.binds b)⟩
theorem MD.get (d : MD K C x q st) (b : BO x q st ps) (ok : ∀ {f fd}, Fun K x q st f fd → FnOk P w K mg base CX0 k f fd ps sp) : MethOk P w K mg base C k x ps sp [[]] := let ⟨f, fd, a, i, F⟩ := d; ⟨f, fd, ⟨a, i, F.kp⟩, ok F, one1 (F.binds b)⟩
theorem two1 {α : Type} {p : α → Prop} {x z : α} (h : p x) (h2 : p z) : ∀ y ∈ [x, z], p y := fun y hy => by rcases List.mem_cons.mp hy with e | e; (rw [e]; exact h); exact one1 h2 y e
theorem three1 {α : Type} {p : α → Prop} {x z t : α} (h : p x) (h2 : p z) (h3 : p t) : ∀ y ∈ [x, z, t], p y := fun y hy => by rcases List.mem_cons.mp hy with e | e; (rw [e]; exact h); exact two1 h2 h3 y e
def GDd (K : Fg) (x : Str) (st : Stmt) (ds : List Value) : Prop := ∃ f fd, nsIn K mainGlobals x = some (some (.ref f)) ∧ FunD K x x st f fd ds
def MDd (K : Fg) (C : Addr) (x q : Str) (st : Stmt) (ds : List Value) : Prop := ∃ f fd, findIn K (.ref C) x = some (some (.ref f)) ∧ isFn K (.ref f) = true ∧ FunD K x q st f fd ds
def BOd (x q : Str) (st : Stmt) (ds : List Value) (ps : List Str) (es : List Value) : Prop := ∀ (T : Addr) (kV doc pm : Value) (an : Option Addr) (cdv ct : Value) (us : List Value), (us ++ es).length = ps.length → ∃ k : Option (Array Value) → Sem (List (Str × Value)), bindArgs (fnOf x q (QL st) (Qo st) (Qg st) (.ref T) kV doc pm an cdv ct) ⟨us, []⟩ = seqItems? (.ref T) >>= k ∧ k (some ds.toArray) = pure (ps.zip (us ++ es))
variable {T : Addr} {n : Nat} {ds : List Value} {o1 : Value} {o2 : Option Addr} {o3 : Array (Option Value)}
theorem gdd_mk (a : nsIn K mainGlobals x = some (some (.ref f))) (l : K.lookup f = some ⟨oc, od, .func (fnOf x x (QL st) (Qo st) (Qg st) (.ref T) kV doc pm an cdv ct), osl⟩) (c : codeIn K cdv x = true) (k : keepIn K (.ref f) = true) (t : K.lookup T = some ⟨o1, o2, .seq (List.toArray ds) n, o3⟩) : GDd K x st ds := ⟨f, _, a, QiF l c k t rfl⟩
theorem mdd_mk (a : findIn K (.ref C) x = some (some (.ref f))) (i : isFn K (.ref f) = true) (l : K.lookup f = some ⟨oc, od, .func (fnOf x q (QL st) (Qo st) (Qg st) (.ref T) kV doc pm an cdv ct), osl⟩) (c : codeIn K cdv q = true) (k : keepIn K (.ref f) = true) (t : K.lookup T = some ⟨o1, o2, .seq (List.toArray ds) n, o3⟩) : MDd K C x q st ds := ⟨f, _, a, i, QiF l c k t rfl⟩
theorem GDd.get (d : GDd K x st ds) (X : K.In h) (G : h.Ns mainGlobals mg) (b : ∀ es ∈ dss, BOd x x st ds ps es) (ok : ∀ {f fd}, FunD K x x st f fd ds → FnOk P w K mg base CX0 k f fd ps sp) : DefOk P w K mg base k x ps sp dss := let ⟨f, fd, a, F⟩ := d; ⟨f, fd, mg_of X G a, F.kp, ok F, fun es he => F.binds (b es he)⟩
theorem MDd.get (d : MDd K C x q st ds) (b : ∀ es ∈ dss, BOd x q st ds ps es) (ok : ∀ {f fd}, FunD K x q st f fd ds → FnOk P w K mg base CX0 k f fd ps sp) : MethOk P w K mg base C k x ps sp dss := let ⟨f, fd, a, i, F⟩ := d; ⟨f, fd, ⟨a, i, F.kp⟩, ok F, fun es he => F.binds (b es he)⟩
theorem MDd.make (d : MDd K C "__init__" q st ds) (mk : makesIn K C = true) (kc : keepIn K (.ref C) = true) (b : ∀ es ∈ dss, BOd "__init__" q st ds ps es) (ok : ∀ {f fd}, FunD K "__init__" q st f fd ds → FnOk P w K mg base CX0 k f fd ps sp) : MakeOk P w K mg base C (k + 1) ps sp dss := let ⟨f, fd, a, i, F⟩ := d; ⟨f, fd, k, Nat.le_refl _, ⟨mk, a, i, kc⟩, ok F, fun es he => F.binds (b es he)⟩
theorem DefOk.up {j : Nat} (h : DefOk P w K mg base j x ps sp dss) (e : j ≤ k := by decide) : DefOk P w K mg base k x ps sp dss := h.mono e
theorem MethOk.up {j : Nat} (h : MethOk P w K mg base C j x ps sp dss) (e : j ≤ k := by decide) : MethOk P w K mg base C k x ps sp dss := h.mono e
theorem MakeOk.up {j : Nat} (h : MakeOk P w K mg base C j ps sp dss) (e : j ≤ k := by decide) : MakeOk P w K mg base C k ps sp dss := h.mono e
theorem MD.make (d : MD K C "__init__" q st) (mk : makesIn K C = true) (kc : keepIn K (.ref C) = true) (b : BO "__init__" q st ps) (ok : ∀ {f fd}, Fun K "__init__" q st f fd → FnOk P w K mg base CX0 k f fd ps sp) : MakeOk P w K mg base C (k + 1) ps sp [[]] := let ⟨f, fd, a, i, F⟩ := d; ⟨f, fd, k, Nat.le_refl _, ⟨mk, a, i, kc⟩, ok F, one1 (F.binds b)⟩
theorem bd1 {x q : Str} {st : Stmt} {ps : List Str} {es ds : List Value} (h : ∀ (T : Addr) (kV doc pm : Value) (an : Option Addr) (cdv ct a0 : Value), ∃ k, bindArgs (fnOf x q (QL st) (Qo st) (Qg st) (.ref T) kV doc pm an cdv ct) ⟨[a0], []⟩ = seqItems? (.ref T) >>= k ∧ k (some ds.toArray) = pure (ps.zip ([a0] ++ es)) := by intros; exact ⟨_, rfl, rfl⟩) (e : es.length + 1 = ps.length := by rfl) : BOd x q st ds ps es := fun T kV doc pm an cdv ct us hl => match us, (show us.length = 1 by rw [List.length_append] at hl; omega) with | [a0], _ => h T kV doc pm an cdv ct a0
theorem bd2 {x q : Str} {st : Stmt} {ps : List Str} {es ds : List Value} (h : ∀ (T : Addr) (kV doc pm : Value) (an : Option Addr) (cdv ct a0 a1 : Value), ∃ k, bindArgs (fnOf x q (QL st) (Qo st) (Qg st) (.ref T) kV doc pm an cdv ct) ⟨[a0, a1], []⟩ = seqItems? (.ref T) >>= k ∧ k (some ds.toArray) = pure (ps.zip ([a0, a1] ++ es)) := by intros; exact ⟨_, rfl, rfl⟩) (e : es.length + 2 = ps.length := by rfl) : BOd x q st ds ps es := fun T kV doc pm an cdv ct us hl => match us, (show us.length = 2 by rw [List.length_append] at hl; omega) with | [a0, a1], _ => h T kV doc pm an cdv ct a0 a1
theorem bd3 {x q : Str} {st : Stmt} {ps : List Str} {es ds : List Value} (h : ∀ (T : Addr) (kV doc pm : Value) (an : Option Addr) (cdv ct a0 a1 a2 : Value), ∃ k, bindArgs (fnOf x q (QL st) (Qo st) (Qg st) (.ref T) kV doc pm an cdv ct) ⟨[a0, a1, a2], []⟩ = seqItems? (.ref T) >>= k ∧ k (some ds.toArray) = pure (ps.zip ([a0, a1, a2] ++ es)) := by intros; exact ⟨_, rfl, rfl⟩) (e : es.length + 3 = ps.length := by rfl) : BOd x q st ds ps es := fun T kV doc pm an cdv ct us hl => match us, (show us.length = 3 by rw [List.length_append] at hl; omega) with | [a0, a1, a2], _ => h T kV doc pm an cdv ct a0 a1 a2
theorem bd4 {x q : Str} {st : Stmt} {ps : List Str} {es ds : List Value} (h : ∀ (T : Addr) (kV doc pm : Value) (an : Option Addr) (cdv ct a0 a1 a2 a3 : Value), ∃ k, bindArgs (fnOf x q (QL st) (Qo st) (Qg st) (.ref T) kV doc pm an cdv ct) ⟨[a0, a1, a2, a3], []⟩ = seqItems? (.ref T) >>= k ∧ k (some ds.toArray) = pure (ps.zip ([a0, a1, a2, a3] ++ es)) := by intros; exact ⟨_, rfl, rfl⟩) (e : es.length + 4 = ps.length := by rfl) : BOd x q st ds ps es := fun T kV doc pm an cdv ct us hl => match us, (show us.length = 4 by rw [List.length_append] at hl; omega) with | [a0, a1, a2, a3], _ => h T kV doc pm an cdv ct a0 a1 a2 a3
theorem bo1 {x q : Str} {st : Stmt} {p0 : Str} (h : ∀ (kV doc pm : Value) (an : Option Addr) (cdv ct a0 : Value), bindArgs (fnOf x q (QL st) (Qo st) (Qg st) .none kV doc pm an cdv ct) ⟨[a0], []⟩ = pure [(p0, a0)] := by intros; rfl) : BO x q st [p0] := fun kV doc pm an cdv ct us hl => match us, hl with | [a0], _ => h kV doc pm an cdv ct a0
theorem bo2 {x q : Str} {st : Stmt} {p0 p1 : Str} (h : ∀ (kV doc pm : Value) (an : Option Addr) (cdv ct a0 a1 : Value), bindArgs (fnOf x q (QL st) (Qo st) (Qg st) .none kV doc pm an cdv ct) ⟨[a0, a1], []⟩ = pure [(p0, a0), (p1, a1)] := by intros; rfl) : BO x q st [p0, p1] := fun kV doc pm an cdv ct us hl => match us, hl with | [a0, a1], _ => h kV doc pm an cdv ct a0 a1
theorem bo3 {x q : Str} {st : Stmt} {p0 p1 p2 : Str} (h : ∀ (kV doc pm : Value) (an : Option Addr) (cdv ct a0 a1 a2 : Value), bindArgs (fnOf x q (QL st) (Qo st) (Qg st) .none kV doc pm an cdv ct) ⟨[a0, a1, a2], []⟩ = pure [(p0, a0), (p1, a1), (p2, a2)] := by intros; rfl) : BO x q st [p0, p1, p2] := fun kV doc pm an cdv ct us hl => match us, hl with | [a0, a1, a2], _ => h kV doc pm an cdv ct a0 a1 a2
theorem bo4 {x q : Str} {st : Stmt} {p0 p1 p2 p3 : Str} (h : ∀ (kV doc pm : Value) (an : Option Addr) (cdv ct a0 a1 a2 a3 : Value), bindArgs (fnOf x q (QL st) (Qo st) (Qg st) .none kV doc pm an cdv ct) ⟨[a0, a1, a2, a3], []⟩ = pure [(p0, a0), (p1, a1), (p2, a2), (p3, a3)] := by intros; rfl) : BO x q st [p0, p1, p2, p3] := fun kV doc pm an cdv ct us hl => match us, hl with | [a0, a1, a2, a3], _ => h kV doc pm an cdv ct a0 a1 a2 a3
theorem bo5 {x q : Str} {st : Stmt} {p0 p1 p2 p3 p4 : Str} (h : ∀ (kV doc pm : Value) (an : Option Addr) (cdv ct a0 a1 a2 a3 a4 : Value), bindArgs (fnOf x q (QL st) (Qo st) (Qg st) .none kV doc pm an cdv ct) ⟨[a0, a1, a2, a3, a4], []⟩ = pure [(p0, a0), (p1, a1), (p2, a2), (p3, a3), (p4, a4)] := by intros; rfl) : BO x q st [p0, p1, p2, p3, p4] := fun kV doc pm an cdv ct us hl => match us, hl with | [a0, a1, a2, a3, a4], _ => h kV doc pm an cdv ct a0 a1 a2 a3 a4
end
theorem all_mk {l : OpenLaw} {w : World} {K : Fg} {h : Heap} {mg : Str → Option Value} {fa CHouse CSearch x_59 aF : Addr} (X : K.In h) (G : h.Ns mainGlobals mg) (hfa : mg "law" = some (.ref fa))
    {od_59 an_59 : Option Addr} {sl_59 : Array (Option Value)} {oc_59 kV_59 dc_59 pm_59 cd_59 ct_59 : Value} {t_40_0 t_31_0 t_31_1 t_30_0 tg tw1 tw2 tw3 tw4 : Tok} {ep0 : Nat}
    {hs1 hs2 : Int}
    (aCHouse : nsIn K mainGlobals "House" = some (some (.ref CHouse)))
    (aCSearch : nsIn K mainGlobals "Search" = some (some (.ref CSearch)))
    (g_25 : GD K "_law_cell_at" QaD)
    (g_53 : GD K "_law_many" QbG)
    (g_49 : GD K "_law_draw" QbI)
    (g_38 : GD K "_law_number" QaY)
    (g_43 : GD K "_law_thing" Qa9)
    (g_44 : GD K "_law_graph" ZZ)
    (m_40 : MDd K CHouse "__init__" "House.__init__" QX [.int 4 t_40_0])
    (m_6 : MD K CHouse "check_slot" "House.check_slot" ZD)
    (m_14 : MD K CHouse "has_room" "House.has_room" ZY)
    (m_11 : MDd K CHouse "make_room" "House.make_room" ZK [.none])
    (g_51 : GD K "box_name" QbJ)
    (g_41 : GD K "box_thing" Qbd)
    (g_55 : GD K "renamed" Qcn)
    (m_24 : MD K CHouse "build" "House.build" QM)
    (m_31 : MDd K CHouse "make" "House.make" QaT [.int 0 t_31_0, .int 0 t_31_1])
    (m_9 : MD K CHouse "check_box" "House.check_box" ZL)
    (m_2 : MD K CHouse "check_thing" "House.check_thing" Zm)
    (m_1 : MD K CHouse "check_field" "House.check_field" Zo)
    (m_48 : MD K CHouse "put" "House.put" Qa8)
    (m_34 : MD K CHouse "hold" "House.hold" QaV)
    (g_45 : GD K "_law_house" Qbb)
    (g_46 : GD K "_law_slots" Qba)
    (m_26 : MD K CHouse "names" "House.names" Qaz)
    (m_5 : MD K CHouse "check_guard" "House.check_guard" Zn)
    (m_19 : MD K CHouse "watch" "House.watch" Qay)
    (m_21 : MD K CHouse "leave" "House.leave" QaA)
    (m_37 : MD K CHouse "kind" "House.kind" QaU)
    (m_32 : MD K CHouse "size" "House.size" QaS)
    (m_27 : MD K CHouse "field" "House.field" QaB)
    (g_50 : GD K "_law_read" Qae)
    (g_42 : GD K "_law_boxes" Z0)
    (m_36 : MD K CHouse "held" "House.held" QaW)
    (m_23 : MD K CHouse "words" "House.words" Qax)
    (g_47 : GD K "_law_holds" Qbc)
    (g_52 : GD K "_law_held" QbH)
    (g_16 : GD K "_law_just_held" Q4)
    (g_17 : GD K "_law_words_fit" Z7)
    (m_29 : MD K CSearch "__init__" "Search.__init__" Qaw)
    (m_13 : MD K CSearch "add_row" "Search.add_row" ZX)
    (m_7 : MD K CSearch "add_slots" "Search.add_slots" ZC)
    (m_10 : MD K CSearch "add_told" "Search.add_told" ZJ)
    (m_8 : MD K CSearch "add_value" "Search.add_value" ZB)
    (m_4 : MD K CSearch "add_fields" "Search.add_fields" Zl)
    (m_0 : MD K CSearch "follow_pair" "Search.follow_pair" Zg)
    (m_18 : MD K CSearch "follow" "Search.follow" Z5)
    (m_3 : MD K CSearch "follow_all" "Search.follow_all" Zk)
    (g_58 : GDd K "paper" Qeb [.none])
    (g_56 : GDd K "living" Qa0 [.none])
    (g_12 : GD K "leads_to_unheld" ZM)
    (g_39 : GD K "break_weak" QY)
    (m_15 : MD K CHouse "waiting" "House.waiting" Z6)
    (m_35 : MD K CHouse "tell" "House.tell" QaQ)
    (g_22 : GD K "tell_unheld" QaC)
    (g_20 : GD K "break_pairs" QN)
    (m_33 : MD K CHouse "drop" "House.drop" QaX)
    (g_28 : GD K "drop_unheld" Zp)
    (g_57 : GDd K "sweep" Qea [.none])
    (m_30 : MDd K CHouse "take" "House.take" QaR [.int 0 t_30_0])
    (g_54 : GD K "_law_turn" QbF)
    (a_59 : nsIn K mainGlobals "law" = some (some (.ref x_59)))
    (l_59 : K.lookup x_59 = some ⟨oc_59, od_59, .func (fnOf "law" "law" (QL QaE) (Qo QaE) (Qg QaE) .none kV_59 dc_59 pm_59 an_59 cd_59 ct_59), sl_59⟩)
    (c_59 : codeIn K cd_59 "law" = true)
    (k_59 : keepIn K (.ref x_59) = true)
    (pgHouse : plainGet K CHouse Str.empty = true)
    (hdHouse : hasDictIn K CHouse = true)
    (poHouse : plainOver K CHouse = true)
    (saHouse : findIn K (.ref CHouse) "__setattr__" = some (some (.builtin "object.__setattr__")))
    (mkHouse : makesIn K CHouse = true)
    (kcHouse : keepIn K (.ref CHouse) = true)
    (n_House_room : findIn K (.ref CHouse) "room" = some none)
    (n_House_slots : findIn K (.ref CHouse) "slots" = some none)
    (n_House_last_name : findIn K (.ref CHouse) "last_name" = some none)
    (n_House_kinds : findIn K (.ref CHouse) "kinds" = some none)
    (n_House_fields : findIn K (.ref CHouse) "fields" = some none)
    (n_House_queues : findIn K (.ref CHouse) "queues" = some none)
    (n_House_told : findIn K (.ref CHouse) "told" = some none)
    (pgSearch : plainGet K CSearch Str.empty = true)
    (hdSearch : hasDictIn K CSearch = true)
    (poSearch : plainOver K CSearch = true)
    (saSearch : findIn K (.ref CSearch) "__setattr__" = some (some (.builtin "object.__setattr__")))
    (mkSearch : makesIn K CSearch = true)
    (kcSearch : keepIn K (.ref CSearch) = true)
    (n_Search_house : findIn K (.ref CSearch) "house" = some none)
    (n_Search_rows : findIn K (.ref CSearch) "rows" = some none)
    (n_Search_listed : findIn K (.ref CSearch) "listed" = some none)
    (n_Search_locked : findIn K (.ref CSearch) "locked" = some none)
    (z_len : nsIn K mainGlobals "len" = some none)
    (z_sorted : nsIn K mainGlobals "sorted" = some none)
    (z_range : nsIn K mainGlobals "range" = some none)
    (z_list : nsIn K mainGlobals "list" = some none)
    (z_isinstance : nsIn K mainGlobals "isinstance" = some none)
    (z_int : nsIn K mainGlobals "int" = some none)
    (z_bool : nsIn K mainGlobals "bool" = some none)
    (z_tuple : nsIn K mainGlobals "tuple" = some none)
    (z_str : nsIn K mainGlobals "str" = some none)
    (z_enumerate : nsIn K mainGlobals "enumerate" = some none)
    (z_zip : nsIn K mainGlobals "zip" = some none)
    (xg : nsIn K mainGlobals "GUARDS" = some (some (.int 4 tg)))
    (xf : nsIn K mainGlobals "FIXED_SIZES" = some (some (.ref aF)))
    (lf : K.lookup aF = some ⟨.type "dict", none, .dict #[⟨hs1, .str "weak" tw1, .int 1 tw2⟩, ⟨hs2, .str "pair" tw3, .int 2 tw4⟩] ep0, #[]⟩)
    (h_1 : hs1 = hashStr w "weak")
    (h_2 : hs2 = hashStr w "pair")
    (h_3 : (aF == sysModules) = false)
    : ∃ fd : FuncData, (∀ (s : Shared) (v : Value), BindsTo s fd ⟨[v], []⟩ [("script", v)]) ∧ ∀ base : Heap, K.In base → base.Ns mainGlobals mg → FnOk l.prog w K mg base CX0 11 fa fd ["script"] (Qjf K) := by
  have e := hfa.symm.trans (mg_of X G a_59)
  cases e
  have F_59 := QiE (st := QaE) l_59 c_59 k_59
  have HT : HTxt K mg CHouse := ⟨⟨pgHouse, hdHouse, poHouse, saHouse⟩, n_House_room, n_House_slots, n_House_last_name, n_House_kinds, n_House_fields, n_House_queues, n_House_told, mg_of X G aCHouse, mg_none_of X G z_len, mg_none_of X G z_sorted, mg_none_of X G z_range, mg_none_of X G z_list, mg_none_of X G z_isinstance, ⟨_, mg_of X G xg⟩⟩
  have T : TX K mg CHouse := { HT with g_int := mg_none_of X G z_int, g_bool := mg_none_of X G z_bool, g_tuple := mg_none_of X G z_tuple, g_str := mg_none_of X G z_str, g_enumerate := mg_none_of X G z_enumerate, s_ib := (by rfl), s_it := (by rfl) }
  have TS : TSx K mg CSearch := ⟨⟨pgSearch, hdSearch, poSearch, saSearch⟩, n_Search_house, n_Search_rows, n_Search_listed, n_Search_locked, mg_of X G aCSearch⟩
  refine ⟨fnOf "law" "law" (QL QaE) (Qo QaE) (Qg QaE) .none kV_59 dc_59 pm_59 an_59 cd_59 ct_59, fun s v => .of_eq rfl, fun base _ _ => ?_⟩
  have KD : QjM l.prog w K aF QjF := kdict2 lf h_1 h_2 (by decide +kernel) h_3
  have D_law_cell_at : DefOk l.prog w K mg base 1 "_law_cell_at" _ _ [[]] := g_25.get X G bo2 fun F => QdA (n := 0) F T 
  have D_law_many : DefOk l.prog w K mg base 2 "_law_many" _ _ [[]] := g_53.get X G bo1 fun F => Qfq (n := 1) F T D_law_cell_at.up
  have D_law_draw : DefOk l.prog w K mg base 2 "_law_draw" _ _ [[]] := g_49.get X G bo2 fun F => Qfs (n := 1) F T D_law_cell_at.up
  have D_law_number : DefOk l.prog w K mg base 3 "_law_number" _ _ [[]] := g_38.get X G bo2 fun F => Qep (n := 2) F T D_law_draw.up D_law_cell_at.up
  have D_law_thing : DefOk l.prog w K mg base 4 "_law_thing" _ _ [[]] := g_43.get X G bo3 fun F => QeK (n := 3) F T D_law_draw.up D_law_number.up
  have D_law_graph : DefOk l.prog w K mg base 5 "_law_graph" _ _ [[]] := g_44.get X G bo2 fun F => QeO (n := 4) F T D_law_draw.up D_law_thing.up
  have D_House : MakeOk l.prog w K mg base CHouse 2 _ _ [[], [.int 4 t_40_0]] := m_40.make mkHouse kcHouse (two1 bd3 bd2) fun F => Qel (n := 0) F T 
  have M_check_slot : MethOk l.prog w K mg base CHouse 1 "check_slot" _ _ [[]] := m_6.get bo2 fun F => QbN (n := 0) F T 
  have M_has_room : MethOk l.prog w K mg base CHouse 1 "has_room" _ _ [[]] := m_14.get bo2 fun F => Qcq (n := 0) F T 
  have M_make_room : MethOk l.prog w K mg base CHouse 2 "make_room" _ _ [[], [.none]] := m_11.get (two1 bd3 bd2) fun F => Qca (n := 1) F T M_has_room.up
  have D_box_name : DefOk l.prog w K mg base 1 "box_name" _ _ [[]] := g_51.get X G bo1 fun F => Qft (n := 0) F T 
  have D_box_thing : DefOk l.prog w K mg base 1 "box_thing" _ _ [[]] := g_41.get X G bo1 fun F => QeQ (n := 0) F T 
  have D_renamed : DefOk l.prog w K mg base 2 "renamed" _ _ [[]] := g_55.get X G bo2 fun F => Qf3 (n := 1) F T D_box_name.up D_box_thing.up
  have M_build : MethOk l.prog w K mg base CHouse 3 "build" _ _ [[]] := m_24.get bo3 fun F => Qdy (n := 2) F T (mg_none_of X G z_zip) M_has_room.up D_renamed.up D_box_thing.up
  have M_make : MethOk l.prog w K mg base CHouse 4 "make" _ _ [[], [.int 0 t_31_0, .int 0 t_31_1], [.int 0 t_31_1]] := m_31.get (three1 bd4 bd2 bd3) fun F => Qej (n := 3) F T (mg_of X G xf) KD M_check_slot.up M_make_room.up M_build.up
  have M_check_box : MethOk l.prog w K mg base CHouse 1 "check_box" _ _ [[]] := m_9.get bo2 fun F => Qcb (n := 0) F T 
  have M_check_thing : MethOk l.prog w K mg base CHouse 2 "check_thing" _ _ [[]] := m_2.get bo2 fun F => Qbv (n := 1) F T D_box_name.up M_check_box.up
  have M_check_field : MethOk l.prog w K mg base CHouse 1 "check_field" _ _ [[]] := m_1.get bo3 fun F => Qbx (n := 0) F T 
  have M_put : MethOk l.prog w K mg base CHouse 3 "put" _ _ [[]] := m_48.get bo4 fun F => QeJ (n := 2) F T M_check_box.up M_check_thing.up M_check_field.up
  have M_hold : MethOk l.prog w K mg base CHouse 3 "hold" _ _ [[]] := m_34.get bo3 fun F => Qem (n := 2) F T M_check_slot.up M_check_thing.up
  have D_law_house : DefOk l.prog w K mg base 5 "_law_house" _ _ [[]] := g_45.get X G bo4 fun F => QeM (n := 4) F T D_House.up M_make.up M_put.up M_hold.up
  have D_law_slots : DefOk l.prog w K mg base 3 "_law_slots" _ _ [[]] := g_46.get X G bo3 fun F => QeL (n := 2) F T D_law_draw.up
  have M_names : MethOk l.prog w K mg base CHouse 1 "names" _ _ [[]] := m_26.get bo1 fun F => Qdv (n := 0) F T 
  have M_check_guard : MethOk l.prog w K mg base CHouse 1 "check_guard" _ _ [[]] := m_5.get bo2 fun F => Qbw (n := 0) F T 
  have M_watch : MethOk l.prog w K mg base CHouse 2 "watch" _ _ [[]] := m_19.get bo3 fun F => Qdu (n := 1) F T M_check_guard.up M_check_box.up
  have M_leave : MethOk l.prog w K mg base CHouse 2 "leave" _ _ [[]] := m_21.get bo3 fun F => Qdw (n := 1) F T M_check_guard.up M_check_box.up
  have M_kind : MethOk l.prog w K mg base CHouse 2 "kind" _ _ [[]] := m_37.get bo2 fun F => Qek (n := 1) F T M_check_box.up
  have M_size : MethOk l.prog w K mg base CHouse 2 "size" _ _ [[]] := m_32.get bo2 fun F => Qei (n := 1) F T M_check_box.up
  have M_field : MethOk l.prog w K mg base CHouse 2 "field" _ _ [[]] := m_27.get bo3 fun F => Qdx (n := 1) F T M_check_box.up M_check_field.up
  have D_law_read : DefOk l.prog w K mg base 3 "_law_read" _ _ [[]] := g_50.get X G bo1 fun F => Qfp (n := 2) F T M_names.up M_kind.up M_size.up M_field.up
  have D_law_boxes : DefOk l.prog w K mg base 1 "_law_boxes" _ _ [[]] := g_42.get X G bo1 fun F => QeP (n := 0) F T 
  have M_held : MethOk l.prog w K mg base CHouse 2 "held" _ _ [[]] := m_36.get bo2 fun F => Qen (n := 1) F T M_check_slot.up
  have M_words : MethOk l.prog w K mg base CHouse 2 "words" _ _ [[]] := m_23.get bo2 fun F => Qdt (n := 1) F T M_check_guard.up
  have D_law_holds : DefOk l.prog w K mg base 2 "_law_holds" _ _ [[]] := g_47.get X G bo4 fun F => QeN (n := 1) F T D_law_boxes.up
  have D_law_held : DefOk l.prog w K mg base 3 "_law_held" _ _ [[]] := g_52.get X G bo3 fun F => Qfr (n := 2) F T D_law_holds.up
  have D_law_just_held : DefOk l.prog w K mg base 4 "_law_just_held" _ _ [[]] := g_16.get X G bo1 fun F => QcJ (n := 3) F T D_law_read.up D_law_boxes.up M_held.up M_words.up D_law_held.up
  have D_law_words_fit : DefOk l.prog w K mg base 1 "_law_words_fit" _ _ [[]] := g_17.get X G bo4 fun F => QcI (n := 0) F T 
  have D_Search : MakeOk l.prog w K mg base CSearch 2 _ _ [[]] := m_29.make mkSearch kcSearch bo2 fun F => Qds (n := 0) F T TS 
  have M_add_row : MethOk l.prog w K mg base CSearch 1 "add_row" _ _ [[]] := m_13.get bo2 fun F => Qcp (n := 0) F T TS 
  have M_add_slots : MethOk l.prog w K mg base CSearch 2 "add_slots" _ _ [[]] := m_7.get bo1 fun F => QbM (n := 1) F T TS D_box_name.up M_add_row.up
  have M_add_told : MethOk l.prog w K mg base CSearch 2 "add_told" _ _ [[]] := m_10.get bo1 fun F => Qb9 (n := 1) F T TS M_add_row.up
  have M_add_value : MethOk l.prog w K mg base CSearch 3 "add_value" _ _ [[]] := m_8.get bo2 fun F => QbL (n := 2) F T TS D_box_name.up M_field.up M_add_row.up
  have M_add_fields : MethOk l.prog w K mg base CSearch 3 "add_fields" _ _ [[]] := m_4.get bo2 fun F => Qbu (n := 2) F T TS M_size.up D_box_name.up M_field.up M_add_row.up
  have M_follow_pair : MethOk l.prog w K mg base CSearch 4 "follow_pair" _ _ [[]] := m_0.get bo2 fun F => Qbj (n := 3) F T TS D_box_name.up M_field.up M_add_value.up
  have M_follow : MethOk l.prog w K mg base CSearch 5 "follow" _ _ [[]] := m_18.get bo2 fun F => QcG (n := 4) F T TS M_add_value.up M_kind.up M_add_fields.up M_follow_pair.up
  have M_follow_all : MethOk l.prog w K mg base CSearch 6 "follow_all" _ _ [[]] := m_3.get bo1 fun F => Qbt (n := 5) F T TS M_follow.up
  have D_paper : DefOk l.prog w K mg base 7 "paper" _ _ [[], [.none]] := g_58.get X G (two1 bd2 bd1) fun F => Qho (n := 6) F T TS D_Search.up M_add_slots.up M_add_told.up M_add_row.up M_follow_all.up
  have D_living : DefOk l.prog w K mg base 8 "living" _ _ [[], [.none]] := g_56.get X G (two1 bd2 bd1) fun F => QgF (n := 7) F T D_paper.up
  have D_leads_to_unheld : DefOk l.prog w K mg base 3 "leads_to_unheld" _ _ [[]] := g_12.get X G bo3 fun F => Qcc (n := 2) F T D_box_name.up M_field.up
  have D_break_weak : DefOk l.prog w K mg base 4 "break_weak" _ _ [[]] := g_39.get X G bo2 fun F => Qeq (n := 3) F T M_names.up M_kind.up D_leads_to_unheld.up M_put.up
  have M_waiting : MethOk l.prog w K mg base CHouse 2 "waiting" _ _ [[]] := m_15.get bo2 fun F => QcH (n := 1) F T M_check_guard.up
  have M_tell : MethOk l.prog w K mg base CHouse 1 "tell" _ _ [[]] := m_35.get bo3 fun F => Qeg (n := 0) F T 
  have D_tell_unheld : DefOk l.prog w K mg base 3 "tell_unheld" _ _ [[]] := g_22.get X G bo2 fun F => Qdz (n := 2) F T M_waiting.up M_tell.up
  have D_break_pairs : DefOk l.prog w K mg base 4 "break_pairs" _ _ [[]] := g_20.get X G bo2 fun F => QdC (n := 3) F T M_kind.up D_leads_to_unheld.up M_put.up
  have M_drop : MethOk l.prog w K mg base CHouse 1 "drop" _ _ [[]] := m_33.get bo2 fun F => Qeo (n := 0) F T 
  have D_drop_unheld : DefOk l.prog w K mg base 2 "drop_unheld" _ _ [[]] := g_28.get X G bo2 fun F => QdB (n := 1) F T M_names.up M_drop.up
  have D_sweep : DefOk l.prog w K mg base 9 "sweep" _ _ [[], [.none]] := g_57.get X G (two1 bd2 bd1) fun F => Qhn (n := 8) F T M_check_box.up D_living.up D_break_weak.up D_tell_unheld.up D_break_pairs.up D_drop_unheld.up
  have M_take : MethOk l.prog w K mg base CHouse 2 "take" _ _ [[], [.int 0 t_30_0]] := m_30.get (two1 bd3 bd2) fun F => Qeh (n := 1) F T M_check_guard.up M_check_slot.up D_box_thing.up
  have D_law_turn : DefOk l.prog w K mg base 10 "_law_turn" _ _ [[]] := g_54.get X G bo5 fun F => Qfo (n := 9) F T D_law_draw.up M_names.up M_watch.up M_leave.up M_hold.up D_law_just_held.up D_law_words_fit.up D_sweep.up M_take.up
  exact Qjt (n := 10) F_59 T D_law_many.up D_law_graph.up D_law_house.up D_law_slots.up D_law_draw.up D_law_turn.up M_waiting.up M_words.up
theorem walk {l : OpenLaw} {q : Program} {loose : List Str} {XP : (Str → Option Value) → Heap → Prop} {YP : World → Heap → Prop} {d : DefRec} {K : Params → Fg} (hn : l.most = some 63) (hdf : d.params.defaults = [])
    (hY : ∀ (w : World) (h : Heap), YP w h → (K w.params).In h)
    (F : ∀ (w : World) (mg : Str → Option Value) (fa : Addr) (h : Heap), (K w.params).In h → h.Ns mainGlobals mg → mg d.name = some (.ref fa) →
      ∃ fd : FuncData, (∀ (s : Shared) (u : Value), BindsTo s fd ⟨[u], []⟩ [("script", u)]) ∧ ∀ base : Heap, (K w.params).In base → base.Ns mainGlobals mg → FnOk l.prog w (K w.params) mg base CX0 11 fa fd ["script"] (Qjf (K w.params))) :
    WalkO q loose XP YP l.row.toRowW d [] (fun f vs => PySem.call f vs) :=
  L2.walk_of (n := 63) (k := 11) (x := "script") (CX := fun _ => CX0) (sp := fun w => Qjf (K w.params)) hn (by decide) hdf ⟨rfl, by decide, by decide⟩ hY F (fun _ _ a ns hl hO hS => ⟨a, ns, rfl, Scr.of hO hS, hl, fun _ => rfl⟩) fun _ _ _ _ _ z => z
end LW
open PySem PySem.W PyProof.Rows
set_option maxRecDepth 100000 in
set_option maxHeartbeats 0 in
theorem PySem.Challenge.cw_lastword_k11_whole_each_word_once_holds : PySem.Challenge.rw_lastword_k11_whole_each_word_once.Holds := by
  w_on; o_law; k_head; (case hw => w_witness2)
  k_fill
  refine LW.walk (l := PySem.Challenge.rw_lastword_k11_whole_each_word_once) rfl rfl (fun w h Y => PySem.W.kIn_of Y) ?F
  case F =>
    intro w mg fa h KX G hmg
    refine' LW.all_mk KX G hmg ?aCHouse ?aCSearch ?g_25 ?g_53 ?g_49 ?g_38 ?g_43 ?g_44 ?m_40 ?m_6 ?m_14 ?m_11 ?g_51 ?g_41 ?g_55 ?m_24 ?m_31 ?m_9 ?m_2 ?m_1 ?m_48 ?m_34 ?g_45 ?g_46 ?m_26 ?m_5 ?m_19 ?m_21 ?m_37 ?m_32 ?m_27 ?g_50 ?g_42 ?m_36 ?m_23 ?g_47 ?g_52 ?g_16 ?g_17 ?m_29 ?m_13 ?m_7 ?m_10 ?m_8 ?m_4 ?m_0 ?m_18 ?m_3 ?g_58 ?g_56 ?g_12 ?g_39 ?m_15 ?m_35 ?g_22 ?g_20 ?m_33 ?g_28 ?g_57 ?m_30 ?g_54 ?a_59 ?l_59 ?c_59 ?k_59 ?pgHouse ?hdHouse ?poHouse ?saHouse ?mkHouse ?kcHouse ?n_House_room ?n_House_slots ?n_House_last_name ?n_House_kinds ?n_House_fields ?n_House_queues ?n_House_told ?pgSearch ?hdSearch ?poSearch ?saSearch ?mkSearch ?kcSearch ?n_Search_house ?n_Search_rows ?n_Search_listed ?n_Search_locked ?z_len ?z_sorted ?z_range ?z_list ?z_isinstance ?z_int ?z_bool ?z_tuple ?z_str ?z_enumerate ?z_zip ?xg ?xf ?lf ?h_1 ?h_2 ?h_3
    case aCHouse | aCSearch | a_59 | l_59 | c_59 | k_59 | pgHouse | hdHouse | poHouse | saHouse | mkHouse | kcHouse | n_House_room | n_House_slots | n_House_last_name | n_House_kinds | n_House_fields | n_House_queues | n_House_told | pgSearch | hdSearch | poSearch | saSearch | mkSearch | kcSearch | n_Search_house | n_Search_rows | n_Search_listed | n_Search_locked | z_len | z_sorted | z_range | z_list | z_isinstance | z_int | z_bool | z_tuple | z_str | z_enumerate | z_zip | xg | xf | lf => k_is
    case g_25 | g_53 | g_49 | g_38 | g_43 | g_44 | g_51 | g_41 | g_55 | g_45 | g_46 | g_50 | g_42 | g_47 | g_52 | g_16 | g_17 | g_12 | g_39 | g_22 | g_20 | g_28 | g_54 => exact LW.gd_mk (by k_is) (by k_is) (by k_is) (by k_is)
    case m_6 | m_14 | m_24 | m_9 | m_2 | m_1 | m_48 | m_34 | m_26 | m_5 | m_19 | m_21 | m_37 | m_32 | m_27 | m_36 | m_23 | m_29 | m_13 | m_7 | m_10 | m_8 | m_4 | m_0 | m_18 | m_3 | m_15 | m_35 | m_33 => exact LW.md_mk (by k_is) (by k_is) (by k_is) (by k_is) (by k_is)
    case g_58 | g_56 | g_57 => exact LW.gdd_mk (by k_is) (by k_is) (by k_is) (by k_is) (by k_is)
    case m_40 | m_11 | m_31 | m_30 => exact LW.mdd_mk (by k_is) (by k_is) (by k_is) (by k_is) (by k_is) (by k_is)
    case h_1 | h_2 | h_3 => rfl
#print axioms PySem.Challenge.cw_lastword_k11_whole_each_word_once_holds

