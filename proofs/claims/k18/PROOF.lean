import PyProof.Rows.All
import Wide.All
import OpenK.AllK
import Wide.FinOn
import Lean
import PyProof.EqAt
import PyProof.EqKinds
import PyProof.TupleCall
import PySem.Challenge.RW_lastword_k18_whole_copies
set_option Elab.async false
set_option linter.all false
set_option maxRecDepth 100000
set_option maxHeartbeats 4000000
namespace L2
open PySem PySem.Spec PyProof.Rows
abbrev Key := Sum Int Str
def Qg4 : Key → Value → Bool
 | .inl k, v => Value.isInt k v
 | .inr x, v => Value.isStrOf x v
def keyH (w : World) : Key → Int
 | .inl k => hashInt k
 | .inr x => hashStr w x
theorem Zw : ∀ {k : Key} {v : Value}, Qg4 k v = true → (∃ i t, k = Sum.inl i ∧ v = Value.int i t) ∨ (∃ x t, k = Sum.inr x ∧ v = Value.str x t)
 | .inl i, v, h => by
  obtain ⟨t, e⟩ := Value.isInt_shape (k := i) (v := v) h
  exact .inl ⟨i, t, rfl, e⟩
 | .inr x, v, h => by
  obtain ⟨t, e⟩ := Value.isStrOf_shape (x := x) (v := v) h
  exact .inr ⟨x, t, rfl, e⟩
theorem Qh7 (i : Int) (t : Tok) : Qg4 (.inl i) (.int i t) = true := by simp [Qg4, Value.isInt]
theorem Qbs (x : Str) (t : Tok) : Qg4 (.inr x) (.str x t) = true := by simp [Qg4, Value.isStrOf]
theorem key_ll (a b : Int) : decide ((Sum.inl a : Key) = Sum.inl b) = (a == b) := by
 by_cases e : a = b
 ·subst e; simp
 ·have h : ¬ (Sum.inl a : Key) = Sum.inl b := fun q => e (Sum.inl.inj q)
  rw [decide_eq_false h]
  exact (beq_eq_false_iff_ne.mpr e).symm
theorem key_rr (a b : Str) : decide ((Sum.inr a : Key) = Sum.inr b) = decide (a = b) := by
 by_cases e : a = b
 ·subst e; simp
 ·have h : ¬ (Sum.inr a : Key) = Sum.inr b := fun q => e (Sum.inr.inj q)
  rw [decide_eq_false h, decide_eq_false e]
theorem key_lr (a : Int) (b : Str) : decide ((Sum.inl a : Key) = Sum.inr b) = false := decide_eq_false (fun q => nomatch q)
theorem key_rl (a : Str) (b : Int) : decide ((Sum.inr a : Key) = Sum.inl b) = false := decide_eq_false (fun q => nomatch q)
def Zf (prog : Program) (w : World) : PySem.KeyKind prog w Key where
 is := Qg4
 hash := keyH w
 inj := fun v a b ha hb => by
  rcases Zw ha with ⟨i, t, rfl, rfl⟩ | ⟨x, t, rfl, rfl⟩
  ·rcases Zw hb with ⟨j, u, rfl, e⟩ | ⟨y, u, rfl, e⟩
   ·injection e with e1 _; rw [e1]
   ·exact nomatch e
  ·rcases Zw hb with ⟨j, u, rfl, e⟩ | ⟨y, u, rfl, e⟩
   ·exact nomatch e
   ·injection e with e1 _; rw [e1]
 byValue := fun k v h => by
  rcases Zw h with ⟨i, t, rfl, rfl⟩ | ⟨x, t, rfl, rfl⟩ <;> rfl
 pyHash := fun hv h => by
  rcases Zw hv with ⟨i, t, rfl, rfl⟩ | ⟨x, t, rfl, rfl⟩
  ·exact wpAny_pyHash_int h
  ·exact wpAny_pyHash_str h
 eqBool := fun hu hv h => by
  rcases Zw hu with ⟨i, t, rfl, rfl⟩ | ⟨x, t, rfl, rfl⟩
  ·rcases Zw hv with ⟨j, u, rfl, rfl⟩ | ⟨y, u, rfl, rfl⟩
   ·rw [key_ll] at h; exact wpAny_eqBool_int h
   ·rw [key_lr] at h; exact SeqAt.EqAt.int_str i t y u _ _ _ _ h
  ·rcases Zw hv with ⟨j, u, rfl, rfl⟩ | ⟨y, u, rfl, rfl⟩
   ·rw [key_rl] at h; exact SeqAt.EqAt.str_int x t j u _ _ _ _ h
   ·rw [key_rr] at h; exact wpAny_eqBool_str h
 «strs» := fun k x t v h => by
  rcases Zw h with ⟨i, u, rfl, e⟩ | ⟨y, u, rfl, e⟩
  ·exact nomatch e
  ·injection e with e1 _
   subst e1
   cases v <;> rfl
theorem Qf8 (prog : Program) (w : World) (i : Int) (t : Tok) : (Zf prog w).is (.inl i) (.int i t) = true := Qh7 i t
theorem Qf7 (prog : Program) (w : World) (x : Str) (t : Tok) : (Zf prog w).is (.inr x) (.str x t) = true := Qbs x t
end L2
namespace L2
open PySem PySem.Spec PyProof.Rows
inductive V where
 | non | bl (b : Bool) | int (i : Int) | str (x : Str) | byt (b : Array UInt8) | flt (b : UInt64) | ref (a : Addr) | ty (n : String)
 deriving DecidableEq
def RelV : V → Value → Prop
 | .non, u => u = Value.none
 | .bl b, u => u = Value.bool b
 | .int i, u => ∃ t, u = Value.int i t
 | .str x, u => ∃ t, u = Value.str x t
 | .byt b, u => ∃ t, u = Value.bytes b t
 | .flt b, u => ∃ t, u = Value.float b t
 | .ref a, u => u = Value.ref a
 | .ty n, u => u = Value.type n
abbrev Vals : List V → List Value → Prop := Paired RelV
theorem Vals.length {xs : List V} {us : List Value} (r : Vals xs us) : xs.length = us.length := Paired.length r
theorem Vals.get : ∀ {xs : List V} {us : List Value} {i : Nat} {x : V}, Vals xs us → xs[i]? = some x → ∃ u, us[i]? = some u ∧ RelV x u
 | _, _, _, _, .nil, e => by simp at e
 | _, _, 0, _, .cons r _, e => by simp at e; subst e; exact ⟨_, rfl, r⟩
 | _, _, i + 1, x, .cons _ t, e => by
  obtain ⟨u, h1, h2⟩ := Vals.get (i := i) (x := x) t (by simpa using e)
  exact ⟨u, by simpa using h1, h2⟩
theorem Vals.set {x : V} {u : Value} (r : RelV x u) : ∀ {xs : List V} {us : List Value} (i : Nat), Vals xs us → Vals (xs.set i x) (us.set i u)
 | _, _, _, .nil => .nil
 | _, _, 0, .cons _ t => .cons r t
 | _, _, i + 1, .cons q t => .cons q (Vals.set r i t)
theorem Vals.append : ∀ {xs ys : List V} {us ws : List Value}, Vals xs us → Vals ys ws → Vals (xs ++ ys) (us ++ ws)
 | _, _, _, _, .nil, s => s
 | _, _, _, _, .cons r t, s => .cons r (Vals.append t s)
theorem Vals.take : ∀ {xs : List V} {us : List Value} (n : Nat), Vals xs us → Vals (xs.take n) (us.take n)
 | _, _, 0, _ => .nil
 | _, _, _ + 1, .nil => .nil
 | _, _, n + 1, .cons r t => .cons r (Vals.take n t)
theorem Vals.drop : ∀ {xs : List V} {us : List Value} (n : Nat), Vals xs us → Vals (xs.drop n) (us.drop n)
 | _, _, 0, r => r
 | _, _, _ + 1, .nil => .nil
 | _, _, n + 1, .cons _ t => Vals.drop n t
theorem Vals.none_of : ∀ {xs : List V} {us : List Value} {i : Nat}, Vals xs us → xs[i]? = none → us[i]? = none := fun {xs us i} r e => by
 have h1 := r.length
 have h2 : xs.length ≤ i := List.getElem?_eq_none_iff.mp e
 exact List.getElem?_eq_none_iff.mpr (by omega)
def RelO : Option V → Option Value → Prop
 | some v, some u => RelV v u
 | none, none => True
 | _, _ => False
def KV {κ : Type} : List (κ × V) → List (κ × Value) → Prop := Paired fun (p : κ × V) (q : κ × Value) => p.1 = q.1 ∧ RelV p.2 q.2
def kV : Key → V
 | .inl i => .int i
 | .inr x => .str x
inductive HO where
 /-- a list -/
 | lst (xs : List V)
 /-- a tuple (never changes) -/
 | tup (xs : List V)
 /-- a dict whose keys are ints and texts; one whose keys are tuples of ints and texts (the empty one is both) -/
 | dK (kvs : List (Key × V)) | dT (kvs : List (List Key × V))
 /-- a set of ints: its members, its size -/
 | set (S : Int → Bool) (n : Nat)
 /-- an instance of the class at C, its dict at dx, its attributes -/
 | ins (C dx : Addr) (fs : List (Str × V))
 /-- the dict of the instance at x -/
 | own (x : Addr)
 /-- the dict of an exception -/
 | xd (fs : List (Str × V))
 /-- a bound method, f of x -/
 | met (f x : Addr)
 /-- a range object lo, lo + 1, .. below hi -/
 | rng (lo hi : Int)
 /-- a thing that is known to the object (the script; a dict while a loop walks it): read, never written while it is so -/
 | frz (o : Obj) (u : HO)
 /-- a code object's table -/
 | tbl (ps : Array Value)
 /-- any other thing, by what is true of its one object (a def of one's own: SetO a S n := HO.ext fun h => ..) -/
 | ext (φ : Heap → Prop)
abbrev Hp := Addr → Option HO
def upd (H : Hp) (a : Addr) (o : HO) : Hp := fun b => if b = a then some o else H b
theorem Qb {H : Hp} {a : Addr} {o : HO} : upd H a o a = some o := by unfold upd; rw [if_pos rfl]
theorem Qg {H : Hp} {a b : Addr} {o : HO} (h : b ≠ a) : upd H a o b = H b := by unfold upd; rw [if_neg h]
theorem QE {H : Hp} {a b : Addr} {o u : HO} (h : H a = some o) (h' : H b = some u) (d : o ≠ u) : a ≠ b := by
 intro e; subst e; rw [h] at h'; exact d (Option.some.inj h')
theorem Qd {H : Hp} {a b : Addr} {o : HO} (h : H a = some o) (h' : H b = none) : a ≠ b := by
 intro e; subst e; rw [h] at h'; cases h'
section
variable (P : Program) (w : World)
def ObjOk (H : Hp) (h : Heap) (a : Addr) : HO → Prop
 | .lst xs => xs.length ≤ sizeLine ∧ ∃ (its : List Value) (n : Nat), Vals xs its ∧ h.get? a = some { cls := .type "list", data := .seq its.toArray n }
 | .tup xs => xs.length ≤ sizeLine ∧ ∃ its : List Value, Vals xs its ∧ IsTup h a its.toArray
 | .dK kvs => kvs.length ≤ sizeLine ∧ (a == sysModules) = false ∧ ∃ vs, KV kvs vs ∧ h.DictOf (Zf P w) a vs
 | .dT kvs => kvs.length ≤ sizeLine ∧ (a == sysModules) = false ∧ ∃ xs : List (List Key × Addr × Value),
   Paired (fun (p : List Key × V) (q : List Key × Addr × Value) => p.1 = q.1 ∧ H q.2.1 = some (.tup (p.1.map kV)) ∧ RelV p.2 q.2.2) kvs xs ∧
   ∃ o es ep, h.get? a = some o ∧ o.ExactDict ∧ o.data = .dict es ep ∧ es.toList = xs.map (entryOfKey (tupleKind (Zf P w))) ∧ (xs.map (·.1)).Nodup
 | .set S n => h.SetOf (intKind P w) a S n
 | .ins C dx fs => H dx = some (.own a) ∧ fs.length ≤ 1000 ∧ dx ≠ a ∧ h.get? a = some (PySem.W.instObj C dx) ∧
   ∃ mA, h.Ns1 dx mA ∧ (∀ f, RelO (fs.lookup f) (mA f)) ∧ PySem.Within mA (fs.map (·.1))
 | .own _ => ∃ o, h.get? a = some o
 | .xd fs => ∃ mA, h.Ns1 a mA ∧ ∀ f, RelO (fs.lookup f) (mA f)
 | .rng lo hi => ∃ t u v, h.get? a = some { cls := .type "range", data := .fields #[.int lo t, .int hi u, .int 1 v] }
 | .frz o u => h.get? a = some o ∧ ObjOk H h a u
 | .tbl ps => h.get? a = some { cls := .none, data := .fields ps }
 | .met f x => h.get? a = some (PySem.W.methodObj (.ref f) (.ref x))
 | .ext φ => φ h ∧ (∃ o, h.get? a = some o) ∧ ∀ h1 h2 : Heap, φ h1 → (∀ o, h1.get? a = some o → h2.get? a = some o) → φ h2
def HOk (H : Hp) (h : Heap) : Prop := ∀ a o, H a = some o → ObjOk P w H h a o
end
section
variable {P : Program} {w : World} {H H' : Hp} {h h' : Heap} {a : Addr} {o : HO}
theorem ObjOk.lt (x : ObjOk P w H h a o) : a < h.objs.size := by
 cases o with
 | lst xs => obtain ⟨_, _, _, _, e⟩ := x; exact Heap.lt_size e
 | tup xs => obtain ⟨_, _, _, p⟩ := x; exact p.lt
 | dK kvs => obtain ⟨_, _, _, _, o, _, _, e, _⟩ := x; exact Heap.lt_size e
 | dT kvs => obtain ⟨_, _, _, _, o, _, _, e, _⟩ := x; exact Heap.lt_size e
 | set S n => obtain ⟨o, _, _, _, e, _⟩ := x; exact Heap.lt_size e
 | ins C dx fs => obtain ⟨_, _, _, e, _⟩ := x; exact Heap.lt_size e
 | own y => obtain ⟨_, e⟩ := x; exact Heap.lt_size e
 | xd fs => obtain ⟨_, ⟨_, _, _, e, _⟩, _⟩ := x; exact Heap.lt_size e
 | rng lo hi => obtain ⟨_, _, _, e⟩ := x; exact Heap.lt_size e
 | frz ob u => obtain ⟨e, _⟩ := x; exact Heap.lt_size e
 | tbl ps => exact Heap.lt_size (show h.get? a = some _ from x)
 | met f y => exact Heap.lt_size (show h.get? a = some _ from x)
 | ext φ => obtain ⟨_, ⟨_, e⟩, _⟩ := x; exact Heap.lt_size e
theorem Paired.mapP {α β : Type} {F G : α → β → Prop} : ∀ {l₁ : List α} {l₂ : List β}, Paired F l₁ l₂ → (∀ a b, F a b → G a b) → Paired G l₁ l₂
 | _, _, .nil, _ => .nil
 | _, _, .cons r t, f => .cons (f _ _ r) (Paired.mapP t f)
theorem ObjOk.stay (x : ObjOk P w H h a o) (k : ∀ b u, (b = a ∨ H b = some (.own a)) → h.get? b = some u → h'.get? b = some u)
  (ho : ∀ b, H b = some (.own a) → H' b = some (.own a)) (ht : ∀ b xs, H b = some (.tup xs) → H' b = some (.tup xs)) : ObjOk P w H' h' a o := by
 induction o with
 | lst xs => obtain ⟨z, its, n, r, e⟩ := x; exact ⟨z, its, n, r, k _ _ (.inl rfl) e⟩
 | tup xs => obtain ⟨z, its, r, ob, e, c⟩ := x; exact ⟨z, its, r, ob, k _ _ (.inl rfl) e, c⟩
 | dK kvs => obtain ⟨z, y, vs, r, ob, es, ep, e, c⟩ := x; exact ⟨z, y, vs, r, ob, es, ep, k _ _ (.inl rfl) e, c⟩
 | dT kvs =>
  obtain ⟨z, y, xs, r, ob, es, ep, e, c⟩ := x
  exact ⟨z, y, xs, Paired.mapP r fun p q z => ⟨z.1, ht _ _ z.2.1, z.2.2⟩, ob, es, ep, k _ _ (.inl rfl) e, c⟩
 | set S n => obtain ⟨ob, es, ep, t, e, c⟩ := x; exact ⟨ob, es, ep, t, k _ _ (.inl rfl) e, c⟩
 | ins C dx fs =>
  obtain ⟨d, z, ne, e, mA, ⟨od, es, ep, e2, c⟩, r⟩ := x
  exact ⟨ho _ d, z, ne, k _ _ (.inl rfl) e, mA, ⟨od, es, ep, k _ _ (.inr d) e2, c⟩, r⟩
 | own y => obtain ⟨ob, e⟩ := x; exact ⟨ob, k _ _ (.inl rfl) e⟩
 | xd fs => obtain ⟨mA, ⟨od, es, ep, e, c⟩, r⟩ := x; exact ⟨mA, ⟨od, es, ep, k _ _ (.inl rfl) e, c⟩, r⟩
 | rng lo hi => obtain ⟨t, u, v, e⟩ := x; exact ⟨t, u, v, k _ _ (.inl rfl) e⟩
 | frz ob u ih => obtain ⟨e, q⟩ := x; exact ⟨k _ _ (.inl rfl) e, ih q⟩
 | tbl ps =>
  have e : h.get? a = some { cls := .none, data := .fields ps } := x
  show h'.get? a = some { cls := .none, data := .fields ps }
  exact k a _ (.inl rfl) e
 | met f y =>
  have e : h.get? a = some (PySem.W.methodObj (.ref f) (.ref y)) := x
  show h'.get? a = some (PySem.W.methodObj (.ref f) (.ref y))
  exact k a _ (.inl rfl) e
 | ext φ => obtain ⟨p, ⟨o, e⟩, st⟩ := x; exact ⟨st _ _ p fun o q => k _ _ (.inl rfl) q, ⟨o, k _ _ (.inl rfl) e⟩, st⟩
theorem HOk.lt (x : HOk P w H h) (e : H a = some o) : a < h.objs.size := (x a o e).lt
theorem HOk.fresh (x : HOk P w H h) (e : h.objs.size ≤ a) : H a = none := by
 cases q : H a with
 | none => rfl
 | some u => exact absurd (Nat.lt_of_lt_of_le (x.lt q) e) (Nat.lt_irrefl _)
theorem HOk.kept (x : HOk P w H h) (k : ∀ b u, h.get? b = some u → h'.get? b = some u) : HOk P w H h' := fun a o e =>
 (x a o e).stay (fun b u _ q => k b u q) (fun _ q => q) fun _ _ q => q
theorem HOk.laid (x : HOk P w H h) (k : ∀ b u, h.get? b = some u → h'.get? b = some u) (hp : h.objs.size ≤ a) (new : ObjOk P w (upd H a o) h' a o) : HOk P w (upd H a o) h' := fun b u e => by
 have hn := x.fresh hp
 by_cases hb : b = a
 ·subst hb; rw [Qb] at e; cases e; exact new
 ·rw [Qg hb] at e
  exact (x b u e).stay (fun c v _ q => k c v q) (fun c q => by rw [Qg (Qd q hn)]; exact q) fun c xs q => by rw [Qg (Qd q hn)]; exact q
end
def Rd (H : Hp) (a : Addr) (u : HO) : Prop := H a = some u ∨ ∃ o, H a = some (.frz o u)
theorem Rd.of {H : Hp} {a : Addr} {u : HO} (h : H a = some u) : Rd H a u := .inl h
theorem Rd.ok {P : Program} {w : World} {H : Hp} {h : Heap} {a : Addr} {u : HO} (r : Rd H a u) (x : HOk P w H h) : ObjOk P w H h a u := by
 rcases r with r | ⟨o, r⟩
 ·exact x a u r
 ·obtain ⟨_, q⟩ := x a _ r
  exact q
def Mut : Option HO → Prop
 | some (.lst _) => True
 | some (.dK _) => True
 | some (.dT _) => True
 | some (.set _ _) => True
 | some (.ins _ _ _) => True
 | some (.ext _) => True
 | _ => False
section
variable {P : Program} {w : World} {H : Hp} {h h' : Heap} {x e : Addr} {o' : HO}
theorem HOk.write (ok : HOk P w H h) (mu : Mut (H x)) (he : e = x ∨ H e = some (.own x)) (k : ∀ b u, b ≠ e → h.get? b = some u → h'.get? b = some u) (heo : ∃ u, h'.get? e = some u)
  (new : ObjOk P w (upd H x o') h' x o') : HOk P w (upd H x o') h' := fun b u q => by
 have nown : ∀ c y, H c = some (.own y) → c ≠ x := fun c y r z => by subst z; rw [r] at mu; exact mu
 have ntup : ∀ c xs, H c = some (.tup xs) → c ≠ x := fun c xs r z => by subst z; rw [r] at mu; exact mu
 by_cases hb : b = x
 ·subst hb; rw [Qb] at q; cases q; exact new
 ·rw [Qg hb] at q
  by_cases hbe : b = e
  ·have q' : H b = some (.own x) := by
    rcases he with z | z
    ·exact absurd (hbe.trans z) hb
    ·rw [hbe]; exact z
   rw [q] at q'; cases q'
   obtain ⟨v, hv⟩ := heo
   exact ⟨v, by rw [hbe]; exact hv⟩
  ·refine (ok b u q).stay (fun c v hc r => k c v ?_ r) (fun c r => by rw [Qg (nown c b r)]; exact r) fun c xs r => by rw [Qg (ntup c xs r)]; exact r
   rcases hc with rfl | hc
   ·exact hbe
   ·rintro rfl
    rcases he with z | z
    ·exact nown c b hc z
    ·rw [hc] at z; cases z; exact hb rfl
end
structure Un (fs ex : List Addr) (H H' : Hp) (h h' : Heap) : Prop where
 keep : ∀ b o, h.get? b = some o → H b = none → b ∉ fs → b ∉ ex → h'.get? b = some o
 slot : ∀ b o, h.get? b = some o → H b = none → b ∈ fs → b ∉ ex → ∃ sl, h'.get? b = some { o with slots := sl }
 free : ∀ b o, h.get? b = some o → H b = none → b ∉ ex → H' b = none
 there : ∀ b o, h.get? b = some o → b ∉ ex → ∃ o', h'.get? b = some o'
 tups : ∀ b xs, H b = some (.tup xs) → H' b = some (.tup xs)
 frzs : ∀ b o u, H b = some (.frz o u) → H' b = some (.frz o u)
 tbls : ∀ b ps, H b = some (.tbl ps) → ∃ more, H' b = some (.tbl (ps ++ more))
section
variable {fs fs' ex ex' : List Addr} {H H1 H2 : Hp} {h h1 h2 h' : Heap} {a x e : Addr} {o : HO}
theorem Un.any (u : Un fs ex H H1 h h1) {b : Addr} {ob : Obj} (q : h.get? b = some ob) (n : H b = none) (hx : b ∉ ex) : ∃ sl, h1.get? b = some { ob with slots := sl } := by
 by_cases hb : b ∈ fs
 ·exact u.slot b ob q n hb hx
 ·exact ⟨ob.slots, u.keep b ob q n hb hx⟩
theorem Un.trans (a : Un fs ex H H1 h h1) (b : Un fs ex H1 H2 h1 h2) : Un fs ex H H2 h h2 where
 keep := fun c ob q n hc hx => b.keep c ob (a.keep c ob q n hc hx) (a.free c ob q n hx) hc hx
 slot := fun c ob q n hc hx => by
  obtain ⟨sl, e1⟩ := a.slot c ob q n hc hx
  obtain ⟨sl', e2⟩ := b.slot c _ e1 (a.free c ob q n hx) hc hx
  exact ⟨sl', e2⟩
 free := fun c ob q n hx => by
  obtain ⟨o', e1⟩ := a.there c ob q hx
  exact b.free c o' e1 (a.free c ob q n hx) hx
 there := fun c ob q hx => by
  obtain ⟨o', e1⟩ := a.there c ob q hx
  exact b.there c o' e1 hx
 tups := fun c xs q => b.tups c xs (a.tups c xs q)
 frzs := fun c ob xs q => b.frzs c ob xs (a.frzs c ob xs q)
 tbls := fun c ps q => by
  obtain ⟨m1, e1⟩ := a.tbls c ps q
  obtain ⟨m2, e2⟩ := b.tbls c _ e1
  exact ⟨m1 ++ m2, by rw [e2, Array.append_assoc]⟩
theorem Un.kept (k : ∀ b u, h.get? b = some u → h'.get? b = some u) : Un fs ex H H h h' :=
 ⟨fun b ob q _ _ _ => k b ob q, fun b ob q _ _ _ => ⟨ob.slots, k b ob q⟩, fun _ _ _ n _ => n, fun b ob q _ => ⟨ob, k b ob q⟩, fun _ _ q => q, fun _ _ _ q => q, fun _ ps q => ⟨#[], by rw [q]; simp⟩⟩
theorem Un.refl : Un fs ex H H h h := Un.kept fun _ _ q => q
theorem Un.laid (k : ∀ b u, h.get? b = some u → h'.get? b = some u) (hp : h.objs.size ≤ a) (hn : H a = none) : Un fs ex H (upd H a o) h h' where
 keep := fun b u q _ _ _ => k b u q
 slot := fun b u q _ _ _ => ⟨u.slots, k b u q⟩
 free := fun b u q n _ => by rw [Qg (Nat.ne_of_lt (Nat.lt_of_lt_of_le (Heap.lt_size q) hp))]; exact n
 there := fun b u q _ => ⟨u, k b u q⟩
 tups := fun b xs q => by rw [Qg (Qd q hn)]; exact q
 frzs := fun b u xs q => by rw [Qg (Qd q hn)]; exact q
 tbls := fun b ps q => ⟨#[], by rw [Qg (Qd q hn), q]; simp⟩
theorem Un.write (mu : Mut (H x)) (he : e = x ∨ H e = some (.own x)) (k : ∀ b u, b ≠ e → h.get? b = some u → h'.get? b = some u) (heo : ∃ u, h'.get? e = some u) : Un fs ex H (upd H x o) h h' := by
 have hx : ∀ b, H b = none → b ≠ x := fun b n z => by subst z; rw [n] at mu; exact mu
 have hb : ∀ b, H b = none → b ≠ e := fun b n z => by
  subst z
  rcases he with r | r
  ·exact hx b n r
  ·rw [n] at r; cases r
 have hm : ∀ b u, H b = some u → ¬ Mut (some u) → b ≠ x := fun b u q nm z => by subst z; rw [q] at mu; exact nm mu
 refine ⟨fun b u q n _ _ => k b u (hb b n) q, fun b u q n _ _ => ⟨u.slots, k b u (hb b n) q⟩, fun b u q n _ => by rw [Qg (hx b n)]; exact n, fun b u q _ => ?_,
  fun b xs q => by rw [Qg (hm b _ q fun z => z)]; exact q, fun b u xs q => by rw [Qg (hm b _ q fun z => z)]; exact q, fun b ps q => ⟨#[], by rw [Qg (hm b _ q fun z => z), q]; simp⟩⟩
 by_cases hbe : b = e
 ·subst hbe; exact heo
 ·exact ⟨u, k b u hbe q⟩
theorem Un.mono (u : Un fs ex H H1 h h1) (hs : ∀ b ∈ fs, b ∈ fs') (hx : ∀ b ∈ ex, b ∈ ex') : Un fs' ex' H H1 h h1 :=
 ⟨fun b ob q n hb he => u.keep b ob q n (fun z => hb (hs b z)) fun z => he (hx b z), fun _ _ q n _ he => u.any q n fun z => he (hx _ z), fun b ob q n he => u.free b ob q n fun z => he (hx b z), fun b ob q he => u.there b ob q fun z => he (hx b z), u.tups, u.frzs, u.tbls⟩
end
def trk (h : Heap) (H : Hp) : List Addr := (List.range h.objs.size).filter fun a => (H a).isSome
def QiR (h : Heap) (H : Hp) : Heap := PySem.W.hideAll h (trk h H)
theorem Qic (h : Heap) (H : Hp) : (QiR h H).objs.size = h.objs.size := PySem.W.hideAll_size _ _
theorem QiQ {h : Heap} {H : Hp} {b : Addr} {o : Obj} (e : h.get? b = some o) (n : H b = none) : (QiR h H).get? b = some o :=
 PySem.W.hideAll_get _ e fun hm => by
  have q : (H b).isSome = true := (List.mem_filter.mp hm).2
  rw [n] at q; simp at q
theorem QjG {h : Heap} {H : Hp} {b : Addr} {o : Obj} (e : (QiR h H).get? b = some o) : h.get? b = some o ∧ H b = none := by
 have e' : h.get? b = some o := PySem.W.of_hideAll (trk h H) e
 refine ⟨e', ?_⟩
 cases q : H b with
 | none => rfl
 | some x =>
  have hm : b ∈ trk h H := List.mem_filter.mpr ⟨List.mem_range.mpr (Heap.lt_size e'), by simp [q]⟩
  have z : (QiR h H).get? b = none := PySem.W.hideAll_none (trk h H) hm
  rw [z] at e; cases e
def Qj1 (g h : Heap) (L : Addr) : List (Addr × Obj) := (List.range h.objs.size).filterMap fun a => if a = L ∨ (g.get? a).isSome = true then none else (h.get? a).map fun o => (a, o)
def Qfn (g h : Heap) (L d : Addr) : List (Addr × Obj) := (Qj1 g h L).filter fun p => decide (p.1 ≠ d)
end L2
namespace L2
open PySem PySem.Spec PyProof.Rows
structure Mod (K : PySem.W.Frag) (mg : Str → Option Value) (base : Heap) : Prop where
 kin : K.In base
 glob : base.Ns mainGlobals mg
 blt : ∃ mb, base.Ns builtinsNs mb ∧ ∀ x : Str, x ≠ "__name__" → mb x = bootBuiltins x
 nolimit : base.NoLimit
structure Cx where
 prog : Program
 w : World
 K : PySem.W.Frag
 mg : Str → Option Value
 base : Heap
 A : Around
 N : List Str
 s₀ : Shared
 H₀ : Hp
 env : Env
 outer : List Env
 stack : List Env
 ex : List Addr
 fn : Str → Bool
 calm : Bool
 pn : List (Addr × Obj)
 xe : Value → Shared → Prop
def frs (l : List Env) : List Addr := l.filterMap (·.frame)
abbrev Cx.fs (X : Cx) : List Addr := frs X.outer
def Vis (sc : Scope) (x : Str) : Prop := sc.names.lookup x = some .local ∨ sc.names.lookup x = some .cell ∨ sc.names.lookup x = some .free
def Loc (sc : Scope) (x : Str) : Prop := sc.names.lookup x = some .local ∨ sc.names.lookup x = some .cell
def Look (env : Env) (h : Heap) (m : Str → Option Value) (x : Str) (u : Value) : Prop :=
 (env.kindOf x = some .local ∧ m x = some u) ∨ ((env.kindOf x = some .cell ∨ env.kindOf x = some .free) ∧ ∃ c, env.cells.lookup x = some c ∧ h.IsCell c (some u))
structure Cx.Ok (X : Cx) : Prop where
 mod : Mod X.K X.mg X.base
 kind : X.env.scope.kind = .function
 glob : X.env.globals = mainGlobals
 blt : X.env.builtins = builtinsNs
 above : X.s₀.heap.objs.size ≤ X.env.locals
 inj : ∀ x y c, X.env.cells.lookup x = some c → X.env.cells.lookup y = some c → x = y
 has : ∀ x, (X.env.kindOf x = some .cell ∨ X.env.kindOf x = some .free) → ∃ c, X.env.cells.lookup x = some c
 cab : ∀ x c, X.fn x = true → X.env.cells.lookup x = some c → X.s₀.heap.objs.size ≤ c
 hd : X.calm = true → X.A.handled = none
 frames : X.A.frames = some X.stack
 stk : X.stack = X.outer ∨ (X.stack = X.env :: X.outer ∧ X.env.frame = some X.env.locals)
 exf : ∀ b ∈ X.ex, b ≠ X.env.locals ∧ ∀ x c, X.env.cells.lookup x = some c → c ≠ b
 bs : ∀ b o, X.base.get? b = some o → X.s₀.heap.get? b = some o ∧ X.H₀ b = none
 bsz : X.base.objs.size ≤ X.s₀.heap.objs.size
 noex : ∀ b o, X.base.get? b = some o → b ∉ X.ex
 exfs : ∀ b ∈ X.ex, b ∉ X.fs
 funs : X.s₀.heap.FunFrames X.base X.outer
 frf : ∀ b ∈ X.fs, X.H₀ b = none
structure Inv (X : Cx) (pins : List (Addr × Obj)) (σ : List (Option V)) (H : Hp) (s : Shared) : Prop where
 ok : X.Ok
 os : s.os = X.s₀.os
 bare : AllBare s.gens
 base : Un X.fs X.ex X.H₀ H X.s₀.heap s.heap
 loc : ∃ m, s.heap.Ns X.env.locals m ∧ ∀ (i : Nat) (x : Str) (v : V), X.N[i]? = some x → σ[i]? = some (some v) → Vis X.env.scope x → ∃ u, RelV v u ∧ Look X.env s.heap m x u
 cell : ∀ x c, X.env.cells.lookup x = some c → ∃ v, s.heap.IsCell c v
 free : H X.env.locals = none
 freeC : ∀ x c, X.env.cells.lookup x = some c → H c = none
 pin : ∀ p ∈ X.pn ++ pins, s.heap.get? p.1 = some p.2 ∧ H p.1 = none ∧ p.1 ≠ X.env.locals ∧ p.1 ∉ X.fs ∧ ∀ v, p.2.data ≠ .cell v
 hok : HOk X.prog X.w H s.heap
 len : σ.length = X.N.length
section
variable {X : Cx} {pins : List (Addr × Obj)} {σ : List (Option V)} {H H' : Hp} {s : Shared} {h' : Heap}
theorem Cx.Ok.nofr (ok : X.Ok) {b : Addr} {o : Obj} (e : X.base.get? b = some o) : b ∉ X.fs := fun hb => by
 have := (ok.funs.mem hb).1
 rw [e] at this; cases this
theorem Inv.bs (I : Inv X pins σ H s) : ∀ b o, X.base.get? b = some o → s.heap.get? b = some o ∧ H b = none := fun b o e =>
 ⟨I.base.keep b o (I.ok.bs b o e).1 (I.ok.bs b o e).2 (I.ok.nofr e) (I.ok.noex b o e), I.base.free b o (I.ok.bs b o e).1 (I.ok.bs b o e).2 (I.ok.noex b o e)⟩
theorem Inv.bk (I : Inv X pins σ H s) : ∀ b o, X.base.get? b = some o → s.heap.get? b = some o := fun b o e => (I.bs b o e).1
theorem Inv.mod (I : Inv X pins σ H s) : Mod X.K X.mg X.base := I.ok.mod
theorem Inv.kIn (I : Inv X pins σ H s) : X.K.In s.heap := I.ok.mod.kin.keeps I.bk
theorem Inv.nolimit (I : Inv X pins σ H s) : s.heap.NoLimit := I.ok.mod.nolimit.keeps I.bk
theorem Inv.fr (I : Inv X pins σ H s) : ∃ m, Fr X.base X.env.locals s.heap m :=
 let ⟨m, hn, _⟩ := I.loc
 ⟨m, hn, I.bk, Nat.le_trans I.ok.bsz I.ok.above⟩
theorem Inv.lt (I : Inv X pins σ H s) : X.env.locals < s.heap.objs.size := let ⟨_, hn, _⟩ := I.loc; hn.lt
theorem Inv.sz (I : Inv X pins σ H s) : X.s₀.heap.objs.size ≤ s.heap.objs.size := Nat.le_trans I.ok.above (Nat.le_of_lt I.lt)
theorem Inv.nofs (I : Inv X pins σ H s) {a : Addr} (h : s.heap.objs.size ≤ a) : a ∉ X.fs := fun hb => by
 obtain ⟨_, o, ho, _⟩ := I.ok.funs.mem hb
 exact absurd (Nat.lt_of_lt_of_le (Heap.lt_size ho) (Nat.le_trans I.sz h)) (Nat.lt_irrefl _)
theorem Inv.cne (I : Inv X pins σ H s) : ∀ x c, X.env.cells.lookup x = some c → c ≠ X.env.locals := fun x c e z => by
 obtain ⟨v, o, ho, hd⟩ := I.cell x c e
 obtain ⟨m, ⟨o', es, ep, ho', hd', _⟩, _⟩ := I.loc
 rw [z, ho'] at ho; cases ho; rw [hd'] at hd; cases hd
theorem Inv.funs (I : Inv X pins σ H s) : s.heap.FunFrames X.base X.outer := by
 have all : ∀ (l : List Env), (∀ b ∈ frs l, b ∈ X.fs) → X.s₀.heap.FunFrames X.base l → s.heap.FunFrames X.base l := by
  intro l
  induction l with
  | nil => intro _ _; trivial
  | cons env r ih =>
   intro hs hl
   obtain ⟨hk, ⟨L, o, hf, hn, ho, hd⟩, hr⟩ := hl
   have hL : L ∈ X.fs := hs L (by unfold frs; rw [List.filterMap_cons, hf]; exact List.mem_cons_self)
   obtain ⟨sl, e⟩ := I.base.slot L o ho (I.ok.frf L hL) hL fun z => I.ok.exfs L z hL
   exact ⟨hk, ⟨L, _, hf, hn, e, hd⟩, ih (fun b hb => hs b (by unfold frs; rw [List.filterMap_cons, hf]; exact List.mem_cons_of_mem _ hb)) hr⟩
 exact all X.outer (fun _ hb => hb) I.ok.funs
theorem Inv.stack (I : Inv X pins σ H s) : s.heap.FunFrames X.base X.stack := by
 rcases I.ok.stk with e | ⟨e, hf⟩
 ·rw [e]; exact I.funs
 ·rw [e]
  obtain ⟨m, hn, _⟩ := I.loc
  refine .cons (by rw [I.ok.kind]; decide) hf hn ?_ I.funs
  exact Heap.get?_none_of_le (Nat.le_trans I.ok.bsz I.ok.above)
theorem Inv.stkSub (I : Inv X pins σ H s) : ∀ b ∈ frs X.stack, b ∈ X.env.locals :: X.fs := fun b hb => by
 rcases I.ok.stk with e | ⟨e, hf⟩
 ·rw [e] at hb; exact List.mem_cons_of_mem _ hb
 ·rw [e] at hb
  unfold frs at hb
  rw [List.filterMap_cons, hf] at hb
  exact hb
theorem Inv.stkFree (I : Inv X pins σ H s) : ∀ b ∈ frs X.stack, H b = none := fun b hb => by
 rcases List.mem_cons.mp (I.stkSub b hb) with e | hb
 ·rw [e]; exact I.free
 ·obtain ⟨_, o, ho, _⟩ := I.ok.funs.mem hb
  exact I.base.free b o ho (I.ok.frf b hb) fun z => I.ok.exfs b z hb
theorem Inv.step {g' : Array GenState} {t' : Nat} {d' : Drawn} {ch : List Addr} (I : Inv X pins σ H s)
  (hch : ∀ b ∈ ch, (b ∈ X.ex ∨ X.s₀.heap.objs.size ≤ b) ∧ b ≠ X.env.locals ∧ (∀ x c, X.env.cells.lookup x = some c → c ≠ b) ∧ ∀ p ∈ X.pn ++ pins, p.1 ≠ b)
  (keep : ∀ b o, b ≠ X.env.locals → b ∉ X.fs → b ∉ ch → s.heap.get? b = some o → H b = none → h'.get? b = some o)
  (slot : ∀ b o, b ≠ X.env.locals → b ∈ X.fs → b ∉ ch → s.heap.get? b = some o → H b = none → ∃ sl, h'.get? b = some { o with slots := sl }) (free : ∀ b o, b ∉ ch → s.heap.get? b = some o → H b = none → H' b = none)
  (there : ∀ b o, b ∉ ch → s.heap.get? b = some o → ∃ o', h'.get? b = some o')
  (tups : ∀ b xs, H b = some (.tup xs) → H' b = some (.tup xs)) (frzs : ∀ b o u, H b = some (.frz o u) → H' b = some (.frz o u)) (tbls : ∀ b ps, H b = some (.tbl ps) → ∃ more, H' b = some (.tbl (ps ++ more)))
  (ns : ∀ m, s.heap.Ns X.env.locals m → h'.Ns X.env.locals m) (hok : HOk X.prog X.w H' h') (hg : AllBare g') :
  Inv X pins σ H' { s with heap := h', gens := g', drawn := d', toks := t' } := by
 have neL : ∀ b o, X.s₀.heap.get? b = some o → b ≠ X.env.locals := fun b o e => Nat.ne_of_lt (Nat.lt_of_lt_of_le (Heap.lt_size e) I.ok.above)
 have neC : ∀ b o, X.s₀.heap.get? b = some o → b ∉ X.ex → b ∉ ch := fun b o e hx hb => by
  rcases (hch b hb).1 with z | z
  ·exact hx z
  ·exact absurd (Nat.lt_of_lt_of_le (Heap.lt_size e) z) (Nat.lt_irrefl _)
 have cellK : ∀ x c, X.env.cells.lookup x = some c → ∀ v, s.heap.IsCell c v → h'.IsCell c v := fun x c e v ⟨o, ho, hd⟩ => by
  have nch : c ∉ ch := fun z => (hch c z).2.2.1 x c e rfl
  by_cases hc : c ∈ X.fs
  ·obtain ⟨sl, q⟩ := slot c o (I.cne x c e) hc nch ho (I.freeC x c e)
   exact ⟨_, q, hd⟩
  ·exact ⟨o, keep c o (I.cne x c e) hc nch ho (I.freeC x c e), hd⟩
 refine ⟨I.ok, I.os, hg, ⟨fun b o e n hb hx => ?_, fun b o e n hb hx => ?_, fun b o e n hx => ?_, fun b o e hx => ?_, fun b xs e => tups b xs (I.base.tups b xs e), fun b o xs e => frzs b o xs (I.base.frzs b o xs e), fun b ps e => ?_⟩, ?_, fun x c e => ?_, ?_, fun x c e => ?_, fun p hp => ?_, hok, I.len⟩
 ·exact keep b o (neL b o e) hb (neC b o e hx) (I.base.keep b o e n hb hx) (I.base.free b o e n hx)
 ·obtain ⟨sl, e1⟩ := I.base.slot b o e n hb hx
  obtain ⟨sl', e2⟩ := slot b _ (neL b o e) hb (neC b o e hx) e1 (I.base.free b o e n hx)
  exact ⟨sl', e2⟩
 ·obtain ⟨o', e1⟩ := I.base.there b o e hx
  exact free b o' (neC b o e hx) e1 (I.base.free b o e n hx)
 ·obtain ⟨o', e1⟩ := I.base.there b o e hx
  exact there b o' (neC b o e hx) e1
 ·obtain ⟨m1, e1⟩ := I.base.tbls b ps e
  obtain ⟨m2, e2⟩ := tbls b _ e1
  exact ⟨m1 ++ m2, by rw [e2, Array.append_assoc]⟩
 ·obtain ⟨m, hn, hl⟩ := I.loc
  refine ⟨m, ns m hn, fun i x v e1 e2 e3 => ?_⟩
  obtain ⟨u, r, l⟩ := hl i x v e1 e2 e3
  refine ⟨u, r, ?_⟩
  rcases l with l | ⟨k, c, e, z⟩
  ·exact .inl l
  ·exact .inr ⟨k, c, e, cellK x c e _ z⟩
 ·obtain ⟨v, z⟩ := I.cell x c e
  exact ⟨v, cellK x c e v z⟩
 ·obtain ⟨m, ⟨o, _, _, ho, _⟩, _⟩ := I.loc
  exact free _ o (fun z => (hch _ z).2.1 rfl) ho I.free
 ·obtain ⟨v, o, ho, hd⟩ := I.cell x c e
  exact free c o (fun z => (hch c z).2.2.1 x c e rfl) ho (I.freeC x c e)
 ·obtain ⟨e, n, ne, nf, d⟩ := I.pin p hp
  have nch : p.1 ∉ ch := fun z => (hch p.1 z).2.2.2 p hp rfl
  exact ⟨keep p.1 p.2 ne nf nch e n, free p.1 p.2 nch e n, ne, nf, d⟩
theorem Inv.un {t' : Nat} (I : Inv X pins σ H s) (u : Un X.fs [] H H' s.heap h') (hok : HOk X.prog X.w H' h') : Inv X pins σ H' { s with heap := h', toks := t' } := by
 obtain ⟨m, ⟨o, es, ep, ho, r⟩, _⟩ := id I.loc
 obtain ⟨sl, hL⟩ := u.any ho I.free (by simp)
 exact I.step (g' := s.gens) (d' := s.drawn) (ch := []) (fun _ z => nomatch z) (fun b o _ hb _ e n => u.keep b o e n hb (by simp)) (fun b o _ hb _ e n => u.slot b o e n hb (by simp)) (fun b o _ e n => u.free b o e n (by simp)) (fun b o _ e => u.there b o e (by simp)) u.tups u.frzs u.tbls (fun m' hm => by
  obtain ⟨o', es', ep', ho', r'⟩ := hm
  rw [ho] at ho'; cases ho'
  exact ⟨_, es', ep', hL, r'⟩) hok I.bare
theorem Inv.call {g' : Array GenState} {t' : Nat} {d' : Drawn} {ch : List Addr} (I : Inv X pins σ H s) (u : Un (frs X.stack) ch H H' s.heap h') (hok : HOk X.prog X.w H' h') (hg : AllBare g')
  (hch : ∀ b ∈ ch, (b ∈ X.ex ∨ X.s₀.heap.objs.size ≤ b) ∧ b ≠ X.env.locals ∧ (∀ x c, X.env.cells.lookup x = some c → c ≠ b) ∧ ∀ p ∈ X.pn ++ pins, p.1 ≠ b) :
  Inv X pins σ H' { s with heap := h', gens := g', drawn := d', toks := t' } := by
 obtain ⟨m, ⟨o, es, ep, ho, r⟩, _⟩ := id I.loc
 obtain ⟨sl, hL⟩ := u.any ho I.free fun z => (hch _ z).2.1 rfl
 exact I.step (ch := ch) hch (fun b o hL hb hc e n => u.keep b o e n (fun z => (List.mem_cons.mp (I.stkSub b z)).elim hL hb) hc) (fun b o _ _ hc e n => u.any e n hc) (fun b o hc e n => u.free b o e n hc) (fun b o hc e => u.there b o e hc) u.tups u.frzs u.tbls (fun m' hm => by
  obtain ⟨o', es', ep', ho', r'⟩ := hm
  rw [ho] at ho'; cases ho'
  exact ⟨_, es', ep', hL, r'⟩) hok hg
theorem Inv.turned {t' : Nat} {it : Addr} (I : Inv X pins σ H s) (k : ∀ b o, b ≠ it → s.heap.get? b = some o → h'.get? b = some o) (hn : H it = none) (hL : it ≠ X.env.locals)
  (h1 : it ∈ X.ex ∨ X.s₀.heap.objs.size ≤ it) (h2 : ∀ x c, X.env.cells.lookup x = some c → c ≠ it) (h3 : ∀ p ∈ X.pn ++ pins, p.1 ≠ it) : Inv X pins σ H { s with heap := h', toks := t' } := by
 have nit : ∀ b u, H b = some u → b ≠ it := fun b u e z => by rw [z, hn] at e; cases e
 refine I.step (g' := s.gens) (d' := s.drawn) (ch := [it]) (fun b hb => ?_) (fun b o _ _ hc e _ => k b o (fun z => hc (by simp [z])) e) (fun b o _ _ hc e _ => ⟨o.slots, k b o (fun z => hc (by simp [z])) e⟩) (fun _ _ _ _ n => n)
  (fun b o hc e => ⟨o, k b o (fun z => hc (by simp [z])) e⟩) (fun _ _ e => e) (fun _ _ _ e => e) (fun b ps e => ⟨#[], by rw [e]; simp⟩) (fun m hm => ?_) (fun b u e => ?_) I.bare
 ·have e : b = it := by simpa using hb
  subst e
  exact ⟨h1, hL, h2, h3⟩
 ·obtain ⟨o, es, ep, ho, r⟩ := hm
  exact ⟨o, es, ep, k _ o (Ne.symm hL) ho, r⟩
 ·refine (I.hok b u e).stay (fun c v hc q => k c v ?_ q) (fun _ q => q) fun _ _ q => q
  rcases hc with z | z
  ·rw [z]; exact nit b u e
  ·exact nit c _ z
theorem Inv.tok (I : Inv X pins σ H s) (t : Nat) : Inv X pins σ H { s with toks := t } := I.un (h' := s.heap) (t' := t) Un.refl I.hok
theorem Inv.kept {t' : Nat} (I : Inv X pins σ H s) (k : ∀ b u, s.heap.get? b = some u → h'.get? b = some u) : Inv X pins σ H { s with heap := h', toks := t' } := I.un (Un.kept k) (I.hok.kept k)
theorem Inv.laid {a : Addr} {o : HO} {t' : Nat} (I : Inv X pins σ H s) (k : ∀ b u, s.heap.get? b = some u → h'.get? b = some u) (hp : s.heap.objs.size ≤ a) (new : ObjOk X.prog X.w (upd H a o) h' a o) :
  Inv X pins σ (upd H a o) { s with heap := h', toks := t' } := I.un (Un.laid k hp (I.hok.fresh hp)) (I.hok.laid k hp new)
theorem Inv.write {x e : Addr} {o : HO} {t' : Nat} (I : Inv X pins σ H s) (mu : Mut (H x)) (he : e = x ∨ H e = some (.own x)) (k : ∀ b u, b ≠ e → s.heap.get? b = some u → h'.get? b = some u) (heo : ∃ u, h'.get? e = some u)
  (new : ObjOk X.prog X.w (upd H x o) h' x o) : Inv X pins σ (upd H x o) { s with heap := h', toks := t' } := I.un (Un.write mu he k heo) (I.hok.write mu he k heo new)
theorem Inv.pins_of {pins' : List (Addr × Obj)} (I : Inv X pins σ H s) (h : ∀ p ∈ pins', s.heap.get? p.1 = some p.2 ∧ H p.1 = none ∧ p.1 ≠ X.env.locals ∧ p.1 ∉ X.fs ∧ ∀ v, p.2.data ≠ .cell v) : Inv X pins' σ H s :=
 ⟨I.ok, I.os, I.bare, I.base, I.loc, I.cell, I.free, I.freeC, fun p hp => (List.mem_append.mp hp).elim (fun z => I.pin p (List.mem_append_left _ z)) (h p), I.hok, I.len⟩
theorem QgG {N : List Str} (hN : N.Nodup) {i j : Nat} {x : Str} (a : N[i]? = some x) (b : N[j]? = some x) : i = j := by
 obtain ⟨h1, e1⟩ := List.getElem?_eq_some_iff.mp a
 obtain ⟨h2, e2⟩ := List.getElem?_eq_some_iff.mp b
 exact (List.getElem_inj hN).mp (e1.trans e2.symm)
theorem Qhq {M : Model} {A : Around} {E : Value → Shared → Prop} {i : Nat} {x : Str} {v : V} {u : Value} {Q : Unit → Shared → Prop} (I : Inv X pins σ H s) (hN : X.N.Nodup) (hi : X.N[i]? = some x) (hx : Loc X.env.scope x) (r : RelV v u)
  (h : ∀ s', Inv X pins (σ.set i (some v)) H s' → (∃ a, Heap.SameBut a s.heap s'.heap ∧ (a = X.env.locals ∨ X.env.cells.lookup x = some a)) → Q () s') (hf : X.fn x = true ∨ X.env.scope.names.lookup x = some .local := by first | exact .inl rfl | exact .inr rfl | assumption) : wpAny M A (storeName X.env x u) Q E s := by
 obtain ⟨m, hn, hl⟩ := id I.loc
 have hcls : (X.env.scope.kind == .class || (X.env.scope.kind == .module && X.env.locals != X.env.globals)) = false := by rw [I.ok.kind]; rfl
 have hiσ : i < σ.length := by rw [I.len]; exact (List.getElem?_eq_some_iff.mp hi).1
 have cne := I.cne
 have tracked : ∀ {a : Addr} {h' : Heap}, (∃ o, s.heap.get? a = some o ∧ H a = none) → Heap.SameBut a s.heap h' → HOk X.prog X.w H h' := fun {a h'} ha hs b ob e => by
  obtain ⟨_, _, hfree⟩ := ha
  refine (I.hok b ob e).stay (fun c w' hc q => (hs.2 c ?_).trans q) (fun _ q => q) fun _ _ q => q
  rintro rfl
  rcases hc with rfl | hc
  ·rw [hfree] at e; cases e
  ·rw [hfree] at hc; cases hc
 rcases hx with hk | hk
 ·refine wpAny_storeName_local hk hn (fun h' hn' hs => ?_) hcls
  obtain ⟨oL, _, _, hoL, _⟩ := id hn
  refine h _ ⟨I.ok, I.os, I.bare, ⟨fun b o e n hb hx => ?_, fun b o e n hb hx => ?_, I.base.free, fun b o e hx => ?_, I.base.tups, I.base.frzs, I.base.tbls⟩, ⟨_, hn', fun j y v' e1 e2 e3 => ?_⟩, fun y c e => ?_, I.free, I.freeC, fun p hp => ?_, tracked ⟨oL, hoL, I.free⟩ hs, by simpa using I.len⟩ ⟨_, hs, .inl rfl⟩
  ·exact (hs.2 b (Nat.ne_of_lt (Nat.lt_of_lt_of_le (Heap.lt_size e) I.ok.above))).trans (I.base.keep b o e n hb hx)
  ·obtain ⟨sl, e1⟩ := I.base.slot b o e n hb hx
   exact ⟨sl, (hs.2 b (Nat.ne_of_lt (Nat.lt_of_lt_of_le (Heap.lt_size e) I.ok.above))).trans e1⟩
  ·obtain ⟨o', e1⟩ := I.base.there b o e hx
   exact ⟨o', (hs.2 b (Nat.ne_of_lt (Nat.lt_of_lt_of_le (Heap.lt_size e) I.ok.above))).trans e1⟩
  ·by_cases hj : j = i
   ·subst hj
    rw [hi] at e1; cases e1
    rw [List.getElem?_set_self hiσ] at e2
    cases e2
    exact ⟨u, r, .inl ⟨hk, by simp⟩⟩
   ·rw [List.getElem?_set_ne (Ne.symm hj)] at e2
    obtain ⟨u', r', q⟩ := hl j y v' e1 e2 e3
    refine ⟨u', r', ?_⟩
    rcases q with ⟨k, e⟩ | ⟨k, c, e, z⟩
    ·refine .inl ⟨k, ?_⟩
     have : y ≠ x := fun e => hj (QgG hN e1 (e ▸ hi))
     simp [this, e]
    ·exact .inr ⟨k, c, e, z.sameBut hs (cne y c e)⟩
  ·obtain ⟨w', z⟩ := I.cell y c e
   exact ⟨w', z.sameBut hs (cne y c e)⟩
  ·obtain ⟨e, n, ne, nf, d⟩ := I.pin p hp
   exact ⟨(hs.2 p.1 ne).trans e, n, ne, nf, d⟩
 ·have hfn : X.fn x = true := by
   rcases hf with z | z
   ·exact z
   ·rw [z] at hk; cases hk
  obtain ⟨c, hc⟩ := I.ok.has x (.inl hk)
  obtain ⟨w', z⟩ := I.cell x c hc
  refine wpAny_storeName_cell I.ok.kind hk hc z (fun h' hc' hs => ?_)
  obtain ⟨oc, hoc, hocd⟩ := id z
  refine h { s with heap := h' } ⟨I.ok, I.os, I.bare, ⟨fun b o e n hb hx => ?_, fun b o e n hb hx => ?_, I.base.free, fun b o e hx => ?_, I.base.tups, I.base.frzs, I.base.tbls⟩, ⟨m, hn.sameBut hs (Ne.symm (cne x c hc)), fun j y v' e1 e2 e3 => ?_⟩, fun y c' e => ?_, I.free, I.freeC, fun p hp => ?_, tracked ⟨oc, hoc, I.freeC x c hc⟩ hs, by simpa using I.len⟩ ⟨c, hs, .inr hc⟩
  ·exact (hs.2 b (Nat.ne_of_lt (Nat.lt_of_lt_of_le (Heap.lt_size e) (I.ok.cab x c hfn hc)))).trans (I.base.keep b o e n hb hx)
  ·obtain ⟨sl, e1⟩ := I.base.slot b o e n hb hx
   exact ⟨sl, (hs.2 b (Nat.ne_of_lt (Nat.lt_of_lt_of_le (Heap.lt_size e) (I.ok.cab x c hfn hc)))).trans e1⟩
  ·obtain ⟨o', e1⟩ := I.base.there b o e hx
   exact ⟨o', (hs.2 b (Nat.ne_of_lt (Nat.lt_of_lt_of_le (Heap.lt_size e) (I.ok.cab x c hfn hc)))).trans e1⟩
  ·by_cases hj : j = i
   ·subst hj
    rw [hi] at e1; cases e1
    rw [List.getElem?_set_self hiσ] at e2
    cases e2
    exact ⟨u, r, .inr ⟨.inl hk, c, hc, hc'⟩⟩
   ·rw [List.getElem?_set_ne (Ne.symm hj)] at e2
    obtain ⟨u', r', q⟩ := hl j y v' e1 e2 e3
    refine ⟨u', r', ?_⟩
    rcases q with q | ⟨k, c', e, z'⟩
    ·exact .inl q
    ·refine .inr ⟨k, c', e, z'.sameBut hs ?_⟩
     rintro rfl
     exact hj (QgG hN e1 (I.ok.inj _ _ _ e hc ▸ hi))
  ·by_cases hcc : c' = c
   ·subst hcc; exact ⟨_, hc'⟩
   ·obtain ⟨w2, z2⟩ := I.cell y c' e
    exact ⟨w2, z2.sameBut hs hcc⟩
  ·obtain ⟨e, n, ne, nf, d⟩ := I.pin p hp
   refine ⟨(hs.2 p.1 ?_).trans e, n, ne, nf, d⟩
   intro q
   rw [q, hoc] at e
   have q' : oc = p.2 := Option.some.inj e
   exact d w' (by rw [← q']; exact hocd)
theorem Qb4 {M : Model} {A : Around} {E : Value → Shared → Prop} {i : Nat} {x : Str} {v : V} {u : Value} {Q : Unit → Shared → Prop} (I : Inv X pins σ H s) (hN : X.N.Nodup) (hi : X.N[i]? = some x) (hx : Loc X.env.scope x) (r : RelV v u)
  (h : ∀ s', Inv X pins (σ.set i (some v)) H s' → Q () s') (hf : X.fn x = true ∨ X.env.scope.names.lookup x = some .local := by first | exact .inl rfl | exact .inr rfl | assumption) : wpAny M A (storeName X.env x u) Q E s :=
 Qhq I hN hi hx r (fun s' I' _ => h s' I') hf
theorem Inv.call' {s' : Shared} {ch : List Addr} (I : Inv X pins σ H s) (ho : s'.os = s.os) (u : Un (frs X.stack) ch H H' s.heap s'.heap) (hok : HOk X.prog X.w H' s'.heap) (hg : AllBare s'.gens)
  (hch : ∀ b ∈ ch, (b ∈ X.ex ∨ X.s₀.heap.objs.size ≤ b) ∧ b ≠ X.env.locals ∧ (∀ x c, X.env.cells.lookup x = some c → c ≠ b) ∧ ∀ p ∈ X.pn ++ pins, p.1 ≠ b) : Inv X pins σ H' s' := by
 obtain ⟨h', g', d', t', o'⟩ := s'
 have e : o' = s.os := ho
 subst e
 exact I.call (g' := g') (t' := t') (d' := d') u hok hg hch
end
abbrev XK := Value → Option Addr → Hp → Prop
abbrev St := List (Option V)
abbrev VK := V → Hp → Prop
abbrev TE := St → Hp → VK → Prop
abbrev TT := St → Hp → (Bool → Hp → Prop) → Prop
abbrev TA := St → Hp → (List V → Hp → Prop) → Prop
structure Qiz where
 nx : St → Hp → Prop
 rt : VK
 bk : St → Hp → Prop := fun _ _ => False
 ct : St → Hp → Prop := fun _ _ => False
abbrev TS := Qiz → St → Hp → Prop
def EP (X : Cx) (pins : List (Addr × Obj)) (σ : St) (Q : VK) (u : Value) (s' : Shared) : Prop := ∃ v H', Inv X pins σ H' s' ∧ RelV v u ∧ Q v H'
def TP (X : Cx) (pins : List (Addr × Obj)) (σ : St) (Q : Bool → Hp → Prop) (b : Bool) (s' : Shared) : Prop := ∃ H', Inv X pins σ H' s' ∧ Q b H'
def AP (X : Cx) (pins : List (Addr × Obj)) (σ : St) (Q : List V → Hp → Prop) (us : List Value) (s' : Shared) : Prop := ∃ vs H', Inv X pins σ H' s' ∧ Vals vs us ∧ Q vs H'
def SP (X : Cx) (pins : List (Addr × Obj)) (D : Qiz) (f : Flow) (s' : Shared) : Prop :=
 match f with
 | .next => ∃ σ' H', Inv X pins σ' H' s' ∧ D.nx σ' H'
 | .brk => ∃ σ' H', Inv X pins σ' H' s' ∧ D.bk σ' H'
 | .cont => ∃ σ' H', Inv X pins σ' H' s' ∧ D.ct σ' H'
 | .ret u => ∃ v σ' H', Inv X pins σ' H' s' ∧ RelV v u ∧ D.rt v H'
def PE (X : Cx) (e : Expr) (t : TE) : Prop :=
 ∀ (pins : List (Addr × Obj)) (s : Shared) (σ : St) (H : Hp) (Q : VK), Inv X pins σ H s → t σ H Q → wpAny (model X.prog X.w) X.A (eval e X.env) (EP X pins σ Q) X.xe s
def PT (X : Cx) (e : Expr) (t : TT) : Prop :=
 ∀ (pins : List (Addr × Obj)) (s : Shared) (σ : St) (H : Hp) (Q : Bool → Hp → Prop), Inv X pins σ H s → t σ H Q → wpAny (model X.prog X.w) X.A (isTrue e X.env (eval e X.env)) (TP X pins σ Q) X.xe s
def PW (X : Cx) (e : Expr) (t : TT) : Prop :=
 ∀ (whole : Sem Value) (pins : List (Addr × Obj)) (s : Shared) (σ : St) (H : Hp) (Q : Bool → Hp → Prop), Inv X pins σ H s → t σ H Q → wpAny (model X.prog X.w) X.A (isTrue e X.env whole) (TP X pins σ Q) X.xe s
theorem PW.pt {X : Cx} {e : Expr} {t : TT} (h : PW X e t) : PT X e t := h _
def PA (X : Cx) (es : List Expr) (t : TA) : Prop :=
 ∀ (pos : Pos) (pins : List (Addr × Obj)) (s : Shared) (σ : St) (H : Hp) (Q : List V → Hp → Prop), Inv X pins σ H s → t σ H Q → wpAny (model X.prog X.w) X.A (spliced (backTo pos (starEach es X.env))) (AP X pins σ Q) X.xe s
def PS (X : Cx) (st : Stmt) (t : TS) : Prop :=
 ∀ (pins : List (Addr × Obj)) (s : Shared) (σ : St) (H : Hp) (D : Qiz), Inv X pins σ H s → t D σ H → wpAny (model X.prog X.w) X.A (exec st X.env) (SP X pins D) X.xe s
def PSs (X : Cx) (st : List Stmt) (t : TS) : Prop :=
 ∀ (pins : List (Addr × Obj)) (s : Shared) (σ : St) (H : Hp) (D : Qiz), Inv X pins σ H s → t D σ H → wpAny (model X.prog X.w) X.A (execs st X.env) (SP X pins D) X.xe s
theorem thn {α : Type} {t : Sem α} {Q Q' : α → Shared → Prop} {M : Model} {A : Around} {E : Value → Shared → Prop} {s : Shared} (h : wpAny M A t Q E s) (hQ : ∀ a s, Q a s → Q' a s) : wpAny M A t Q' E s := wpAny_mono h hQ fun _ _ x => x
end L2
namespace L2
open PySem PySem.Spec PyProof.Rows
section
variable {X : Cx}
theorem bin {a b : Expr} {ta tb : TE} (ha : PE X a ta) (hb : PE X b tb) {pins : List (Addr × Obj)} {s : Shared} {σ : St} {H : Hp} {R : V → V → Hp → Prop} (I : Inv X pins σ H s) (h : ta σ H fun x H1 => tb σ H1 fun y H2 => R x y H2)
  {α : Type} {Q : α → Shared → Prop} {f : Value → Value → Sem α}
  (hf : ∀ v u s2 x y H2, Inv X pins σ H2 s2 → RelV x v → RelV y u → R x y H2 → wpAny (model X.prog X.w) X.A (f v u) Q X.xe s2) :
  wpAny (model X.prog X.w) X.A (eval a X.env) (fun v s₁ => wpAny (model X.prog X.w) X.A (eval b X.env) (fun u s₂ => wpAny (model X.prog X.w) X.A (f v u) Q X.xe s₂) X.xe s₁) X.xe s := by
 refine thn (ha pins s σ H _ I h) fun v s1 ⟨x, H1, I1, r1, q1⟩ => ?_
 refine thn (hb pins s1 σ H1 _ I1 q1) fun u s2 ⟨y, H2, I2, r2, q2⟩ => ?_
 exact hf v u s2 x y H2 I2 r1 r2 q2
def tVar (i : Nat) : TE := fun σ H Q => ∃ v, σ[i]? = some (some v) ∧ Q v H
def tC (v : V) : TE := fun _ H Q => Q v H
theorem pe_var {i : Nat} {x : Str} {pos : Pos} (hN : X.N[i]? = some x) (hv : Vis X.env.scope x) (hd : (x == ("__debug__" : Str)) = false := by decide) (hcd : (x == ("__classdict__" : Str)) = false := by decide) : PE X (.Name x pos) (tVar i) := by
 intro pins s σ H Q I h
 obtain ⟨v, e, h⟩ := h
 obtain ⟨m, hn, hl⟩ := I.loc
 obtain ⟨u, r, l⟩ := hl i x v hN e hv
 have fin : EP X pins σ Q u s := ⟨v, H, I, r, h⟩
 rcases l with ⟨hk, hm⟩ | ⟨hk, c, hc, hcell⟩
 ·exact wpAny_Name (wpAny_loadName_local I.ok.kind hk hn hm fin) hd
 ·rcases hk with hk | hk
  ·exact wpAny_Name (wpAny_loadName_cell I.ok.kind hk hc hcell fin) hd
  ·exact wpAny_Name (wpAny_loadName_free I.ok.kind hk hc hcell fin hcd) hd
theorem Qi {i j pos} : PE X (.Constant (.int i) j pos) (tC (.int i)) := fun _ _ _ H _ I h => wpAny_Constant_int ⟨.int i, H, I.tok _, ⟨_, rfl⟩, h⟩
theorem QaQ {b j pos} : PE X (.Constant (.bool b) j pos) (tC (.bl b)) := fun _ _ _ H _ I h => Constant_bool ⟨.bl b, H, I, rfl, h⟩
theorem Qfr {j pos} : PE X (.Constant .none j pos) (tC .non) := fun _ _ _ H _ I h => Constant_none ⟨.non, H, I, rfl, h⟩
theorem Qcf {x j pos} : PE X (.Constant (.str x) j pos) (tC (.str x)) := fun _ _ _ H _ I h => Calls.Constant_str ⟨.str x, H, I.tok _, ⟨_, rfl⟩, h⟩
def Gl (X : Cx) (x : Str) : Prop := X.env.kindOf x = some .globalImplicit
theorem QeX {E : Value → Shared → Prop} {pins : List (Addr × Obj)} {s : Shared} {σ : St} {H : Hp} {x : Str} {u : Value} {pos : Pos} {Q : Value → Shared → Prop} (I : Inv X pins σ H s) (hg : Gl X x) (hm : X.mg x = some u) (h : Q u s)
  (hd : (x == ("__debug__" : Str)) = false := by decide) : wpAny (model X.prog X.w) X.A (eval (.Name x pos) X.env) Q E s :=
 Calls.Name_function_global I.ok.kind hg (Calls.loadGlobal_global (by rw [I.ok.glob]; exact I.mod.glob.keeps I.bk) hm h) hd
theorem QcJ {E : Value → Shared → Prop} {pins : List (Addr × Obj)} {s : Shared} {σ : St} {H : Hp} {x : Str} {u : Value} {pos : Pos} {Q : Value → Shared → Prop} (I : Inv X pins σ H s) (hg : Gl X x) (hm : X.mg x = none) (hv : bootBuiltins x = some u) (h : Q u s)
  (hn : x ≠ "__name__" := by decide) (hd : (x == ("__debug__" : Str)) = false := by decide) : wpAny (model X.prog X.w) X.A (eval (.Name x pos) X.env) Q E s := by
 obtain ⟨mb, h1, h2⟩ := I.mod.blt
 exact Calls.Name_function_global I.ok.kind hg (Calls.loadGlobal_builtin (by rw [I.ok.glob]; exact I.mod.glob.keeps I.bk) hm (by rw [I.ok.blt]; exact h1.keeps I.bk) ((h2 x hn).trans hv) h) hd
theorem Qf2 {x : Str} {v : V} {u : Value} {pos : Pos} (hg : Gl X x) (hm : X.mg x = some u) (r : RelV v u) (hd : (x == ("__debug__" : Str)) = false := by decide) : PE X (.Name x pos) (tC v) :=
 fun _ _ _ H _ I h => QeX I hg hm ⟨v, H, I, r, h⟩ hd
theorem Qa0 {x : Str} {v : V} {u : Value} {pos : Pos} (hg : Gl X x) (hm : X.mg x = none) (hv : bootBuiltins x = some u) (r : RelV v u) (hn : x ≠ "__name__" := by decide) (hd : (x == ("__debug__" : Str)) = false := by decide) : PE X (.Name x pos) (tC v) :=
 fun _ _ _ H _ I h => QcJ I hg hm hv ⟨v, H, I, r, h⟩ hn hd
variable {a b : Expr} {ta tb : TE} {pos : Pos}
def PC (X : Cx) (op : CmpOp) (a b : Expr) (t : TE) : Prop :=
 ∀ (pins : List (Addr × Obj)) (s : Shared) (σ : St) (H : Hp) (Q : VK), Inv X pins σ H s → t σ H Q →
  wpAny (model X.prog X.w) X.A (eval a X.env) (fun v s₁ => wpAny (model X.prog X.w) X.A (eval b X.env) (fun u s₂ => wpAny (model X.prog X.w) X.A (compareOp op v u) (EP X pins σ Q) X.xe s₂) X.xe s₁) X.xe s
theorem QgH (b : Expr) {op : CmpOp} (h : op ≠ .In) (h2 : op ≠ .NotIn) : behindInMarks op b = false := by
 have e1 : (op == CmpOp.In) = false := by cases op <;> first | rfl | exact absurd rfl h
 have e2 : (op == CmpOp.NotIn) = false := by cases op <;> first | rfl | exact absurd rfl h2
 cases b <;> simp [behindInMarks, e1, e2]
def tIsN (ta : TE) : TE := fun σ H Q => ta σ H fun x H1 => Q (.bl (decide (x = .non))) H1
def tNotN (ta : TE) : TE := fun σ H Q => ta σ H fun x H1 => Q (.bl (!decide (x = .non))) H1
theorem RelV.none_iff {x : V} {v : Value} (r : RelV x v) : (v == Value.none) = decide (x = .non) := by
 cases x with
 | non => cases r; rfl
 | bl _ => cases r; rfl
 | int _ => obtain ⟨t, rfl⟩ := r; rfl
 | str _ => obtain ⟨t, rfl⟩ := r; rfl
 | byt _ => obtain ⟨t, rfl⟩ := r; rfl
 | flt _ => obtain ⟨t, rfl⟩ := r; rfl
 | ref _ => cases r; rfl
 | ty _ => cases r; rfl
theorem QgD {j pos'} (ha : PE X a ta) : PC X .Is a (.Constant .none j pos') (tIsN ta) := by
 intro pins s σ H Q I h
 refine thn (ha pins s σ H _ I h) fun v s1 ⟨x, H1, I1, r1, q1⟩ => ?_
 exact Constant_none (is_none_gen ⟨.bl _, H1, I1, by rw [r1.none_iff]; rfl, q1⟩)
theorem QhW {j pos'} (ha : PE X a ta) : PC X .IsNot a (.Constant .none j pos') (tNotN ta) := by
 intro pins s σ H Q I h
 refine thn (ha pins s σ H _ I h) fun v s1 ⟨x, H1, I1, r1, q1⟩ => ?_
 exact Constant_none (isnot_none_gen ⟨.bl _, H1, I1, by rw [r1.none_iff]; rfl, q1⟩)
def tB (t : TE) : TT := fun σ H Q => t σ H fun x H1 => ∃ c, x = .bl c ∧ Q c H1
theorem pe_cmp {op : CmpOp} {t : TE} (h : PC X op a b t) (h1 : behindInMarks op b = false := by first | exact QgH _ (by decide) (by decide) | rfl) : PE X (.Compare a [op] [b] pos) t := fun pins s σ H Q I hw => wpAny_Compare1 (h pins s σ H Q I hw) h1
theorem Qdp {op : CmpOp} {t : TE} (h : PC X op a b t) (h1 : behindInMarks op b = false := by first | exact QgH _ (by decide) (by decide) | rfl) : PT X (.Compare a [op] [b] pos) (tB t) := by
 intro pins s σ H Q I hw
 refine wpAny_isTrue_Compare1 (thn (h pins s σ H _ I hw) fun v s1 h1 => thn h1 fun u s2 h2 => thn h2 fun c s3 ⟨x, H1, I1, r1, q1⟩ => ?_) h1
 obtain ⟨d, rfl, q⟩ := q1
 cases r1
 exact wpAny_truthy_bool ⟨H1, I1, q⟩
theorem Z1 {e : Expr} {t : TE} (h : PE X e t) (he : ∀ whole, isTrue e X.env whole = (do let v ← whole; standAt e.pos; holding [v] (truthy v)) := by intro _; rfl) : PT X e (tB t) := by
 intro pins s σ H Q I hw
 refine isTrue_plain (thn (h pins s σ H _ I hw) fun v s1 ⟨x, H1, I1, r1, q1⟩ => ?_) (he _)
 obtain ⟨d, rfl, q⟩ := q1
 cases r1
 exact wpAny_truthy_bool ⟨H1, I1, q⟩
variable {tA tB' : TT} {Qfn : List Expr}
def tOr (t u : TT) : TT := fun σ H Q => t σ H fun c H1 => if c = true then Q true H1 else u σ H1 Q
def tNot (t : TT) : TT := fun σ H Q => t σ H fun c H1 => Q (!c) H1
theorem Qcc (ha : PT X a tA) : PW X (.BoolOp .Or [a] pos) tA := by
 intro wh pins s σ H Q I h
 refine isTrue_or (thn (ha pins s σ H Q I h) fun c s1 e => ?_)
 cases c with
 | false => exact isTrue_or_nil e
 | true => exact e
theorem QeK (ha : PT X a tA) (hb : PW X (.BoolOp .Or (b :: Qfn) pos) tB') : PW X (.BoolOp .Or (a :: b :: Qfn) pos) (tOr tA tB') := by
 intro wh pins s σ H Q I h
 refine isTrue_or (thn (ha pins s σ H _ I h) fun c s1 ⟨H1, I1, q1⟩ => ?_)
 cases c with
 | true => exact ⟨H1, I1, q1⟩
 | false => exact hb wh pins s1 σ H1 Q I1 q1
theorem Qai (ha : PT X a tA) : PT X (.UnaryOp .Not a pos) (tNot tA) := by
 intro pins s σ H Q I h
 exact isTrue_not (ha pins s σ H (fun c H1 => Q (!c) H1) I h)
def tAndV (ta tb : TE) : TE := fun σ H Q => ta σ H fun x H1 => ∃ c, x = .bl c ∧ if c = true then tb σ H1 Q else Q (.bl false) H1
def tNotV (ta : TE) : TE := fun σ H Q => ta σ H fun x H1 => ∃ c, x = .bl c ∧ Q (.bl (!c)) H1
theorem QhV {op} {t : TE} (h : PE X a t) : PE X (.BoolOp op [a] pos) t := fun pins s σ H Q I hw => BoolOp_one (h pins s σ H Q I hw)
theorem QgC (ha : PE X a ta) (hb : PE X (.BoolOp .And (b :: Qfn) pos) tb) : PE X (.BoolOp .And (a :: b :: Qfn) pos) (tAndV ta tb) := by
 intro pins s σ H Q I h
 refine BoolOp_and (thn (ha pins s σ H _ I h) fun v s1 ⟨x, H1, I1, r1, q1⟩ => ?_)
 obtain ⟨c, rfl, q1⟩ := q1
 cases r1
 refine wpAny_truthy_bool ?_
 cases c with
 | true => exact hb pins s1 σ H1 Q I1 q1
 | false => exact ⟨.bl false, H1, I1, rfl, q1⟩
theorem pe_not (ha : PE X a ta) : PE X (.UnaryOp .Not a pos) (tNotV ta) := by
 intro pins s σ H Q I h
 refine UnaryOp_ (thn (ha pins s σ H _ I h) fun v s1 ⟨x, H1, I1, r1, q1⟩ => ?_)
 obtain ⟨c, rfl, q1⟩ := q1
 cases r1
 exact not_of (wpAny_truthy_bool ⟨.bl (!c), H1, I1, rfl, q1⟩)
end
end L2
namespace L2
open PySem PySem.Spec PyProof.Rows
def SqL (K : PySem.W.Frag) (H : Hp) (a : Addr) (xs : List V) : Prop :=
 Rd H a (.lst xs) ∨
  ∃ (o : Obj) (its : Array Value) (n : Nat), K.lookup a = some o ∧ o.cls = .type "list" ∧ o.dict = none ∧ o.data = .seq its n ∧ its.size ≤ sizeLine ∧ Vals xs its.toList
def SqT (K : PySem.W.Frag) (H : Hp) (a : Addr) (xs : List V) : Prop :=
 Rd H a (.tup xs) ∨
  ∃ (o : Obj) (its : Array Value) (n : Nat), K.lookup a = some o ∧ o.cls = .type "tuple" ∧ o.data = .seq its n ∧ its.size ≤ sizeLine ∧ Vals xs its.toList
def absV : Value → Option V
 | .none => some .non
 | .bool b => some (.bl b)
 | .int i _ => some (.int i)
 | .str x _ => some (.str x)
 | .bytes b _ => some (.byt b)
 | .float b _ => some (.flt b)
 | .ref a => some (.ref a)
 | .type n => some (.ty n)
 | _ => none
theorem RelV.abs {x : V} {u : Value} (r : RelV x u) : absV u = some x := by
 cases x with
 | non => cases r; rfl
 | bl _ => cases r; rfl
 | int _ => obtain ⟨t, rfl⟩ := r; rfl
 | str _ => obtain ⟨t, rfl⟩ := r; rfl
 | byt _ => obtain ⟨t, rfl⟩ := r; rfl
 | flt _ => obtain ⟨t, rfl⟩ := r; rfl
 | ref _ => cases r; rfl
 | ty _ => cases r; rfl
theorem RelV.inj {x y : V} {u : Value} (r : RelV x u) (q : RelV y u) : x = y := Option.some.inj (r.abs.symm.trans q.abs)
theorem Vals.inj : ∀ {xs ys : List V} {us : List Value}, Vals xs us → Vals ys us → xs = ys
 | _, _, _, .nil, .nil => rfl
 | _, _, _, .cons r t, .cons r' t' => by rw [r.inj r', Vals.inj t t']
section
variable {X : Cx} {pins : List (Addr × Obj)} {σ : St} {H : Hp} {s : Shared} {a : Addr} {xs ys : List V}
theorem SqL.of {K : PySem.W.Frag} (h : H a = some (.lst xs)) : SqL K H a xs := .inl (.inl h)
theorem SqT.of {K : PySem.W.Frag} (h : H a = some (.tup xs)) : SqT K H a xs := .inl (.inl h)
theorem Inv.list (I : Inv X pins σ H s) (h : SqL X.K H a xs) : ∃ its : List Value, Vals xs its ∧ PlainL s.heap a its.toArray ∧ xs.length ≤ sizeLine := by
 rcases h with h | ⟨o, its, n, hk, hc, hd, hs, hz, r⟩
 ·obtain ⟨z, its, n, r, e⟩ := h.ok I.hok
  exact ⟨its, r, ⟨_, n, e, rfl, rfl, rfl⟩, z⟩
 ·refine ⟨its.toList, r, ⟨o, n, I.kIn a o hk, hc, hd, by simpa using hs⟩, ?_⟩
  have e := r.length
  simp only [Array.length_toList] at e
  omega
theorem Inv.tuple (I : Inv X pins σ H s) (h : SqT X.K H a xs) : ∃ its : List Value, Vals xs its ∧ IsTup s.heap a its.toArray ∧ xs.length ≤ sizeLine := by
 rcases h with h | ⟨o, its, n, hk, hc, hs, hz, r⟩
 ·obtain ⟨z, its, r, p⟩ := h.ok I.hok
  exact ⟨its, r, p, z⟩
 ·refine ⟨its.toList, r, ⟨o, I.kIn a o hk, hc, n, by simpa using hs⟩, ?_⟩
  have e := r.length
  simp only [Array.length_toList] at e
  omega
theorem Inv.list_inj (I : Inv X pins σ H s) (h : SqL X.K H a xs) (h' : SqL X.K H a ys) : xs = ys := by
 obtain ⟨its, r, ⟨o, n, e, _, _, d⟩, _⟩ := I.list h
 obtain ⟨its', r', ⟨o', n', e', _, _, d'⟩, _⟩ := I.list h'
 rw [e] at e'; cases e'
 rw [d] at d'
 injection d' with d1 _
 have : its = its' := by simpa using congrArg Array.toList d1
 subst this
 exact r.inj r'
theorem Inv.tuple_inj (I : Inv X pins σ H s) (h : SqT X.K H a xs) (h' : SqT X.K H a ys) : xs = ys := by
 obtain ⟨its, r, ⟨o, e, _, n, d⟩, _⟩ := I.tuple h
 obtain ⟨its', r', ⟨o', e', _, n', d'⟩, _⟩ := I.tuple h'
 rw [e] at e'; cases e'
 rw [d] at d'
 injection d' with d1 _
 have : its = its' := by simpa using congrArg Array.toList d1
 subst this
 exact r.inj r'
end
abbrev Cx.wish (X : Cx) (E : Value → Shared → Prop) : Cx := { X with xe := E }
abbrev Cx.nox (X : Cx) : Cx := X.wish fun _ _ => False
theorem Cx.Ok.wish {X : Cx} (ok : X.Ok) (E : Value → Shared → Prop) : (X.wish E).Ok :=
 ⟨ok.mod, ok.kind, ok.glob, ok.blt, ok.above, ok.inj, ok.has, ok.cab, ok.hd, ok.frames, ok.stk, ok.exf, ok.bs, ok.bsz, ok.noex, ok.exfs, ok.funs, ok.frf⟩
theorem Cx.Ok.unwish {X : Cx} {E : Value → Shared → Prop} (ok : (X.wish E).Ok) : X.Ok :=
 ⟨ok.mod, ok.kind, ok.glob, ok.blt, ok.above, ok.inj, ok.has, ok.cab, ok.hd, ok.frames, ok.stk, ok.exf, ok.bs, ok.bsz, ok.noex, ok.exfs, ok.funs, ok.frf⟩
section
variable {X : Cx} {pins : List (Addr × Obj)} {σ : St} {H : Hp} {s : Shared} {E : Value → Shared → Prop}
theorem Inv.wish (I : Inv X pins σ H s) (E : Value → Shared → Prop) : Inv (X.wish E) pins σ H s := ⟨I.ok.wish E, I.os, I.bare, I.base, I.loc, I.cell, I.free, I.freeC, I.pin, I.hok, I.len⟩
theorem Inv.unwish (I : Inv (X.wish E) pins σ H s) : Inv X pins σ H s := ⟨I.ok.unwish, I.os, I.bare, I.base, I.loc, I.cell, I.free, I.freeC, I.pin, I.hok, I.len⟩
theorem SP.unwish {D : Qiz} {f : Flow} {s' : Shared} (h : SP (X.wish E) pins D f s') : SP X pins D f s' := by
 cases f with
 | next => obtain ⟨σ', H', I, q⟩ := h; exact ⟨σ', H', I.unwish, q⟩
 | brk => obtain ⟨σ', H', I, q⟩ := h; exact ⟨σ', H', I.unwish, q⟩
 | cont => obtain ⟨σ', H', I, q⟩ := h; exact ⟨σ', H', I.unwish, q⟩
 | ret u => obtain ⟨v, σ', H', I, r, q⟩ := h; exact ⟨v, σ', H', I.unwish, r, q⟩
theorem PE.nox {e : Expr} {t : TE} (h : PE X.nox e t) : PE X e t := fun pins s σ H Q I hw =>
 wpAny_mono (h pins s σ H Q (I.wish _) hw) (fun _ _ ⟨v, H', I', r, q⟩ => ⟨v, H', I'.unwish, r, q⟩) fun _ _ z => False.elim z
theorem PT.nox {e : Expr} {t : TT} (h : PT X.nox e t) : PT X e t := fun pins s σ H Q I hw =>
 wpAny_mono (h pins s σ H Q (I.wish _) hw) (fun _ _ ⟨H', I', q⟩ => ⟨H', I'.unwish, q⟩) fun _ _ z => False.elim z
theorem PSs.nox {st : List Stmt} {t : TS} (h : PSs X.nox st t) : PSs X st t := fun pins s σ H D I hw =>
 wpAny_mono (h pins s σ H D (I.wish _) hw) (fun _ _ q => q.unwish) fun _ _ z => False.elim z
end
section
variable {X : Cx} {st : Stmt} {Qfn : List Stmt} {t u : TS} {e : Expr} {te : TE} {pos : Pos}
def tNext : TS := fun D σ H => D.nx σ H
def tSeq (t u : TS) : TS := fun D σ H => t { D with nx := u D } σ H
theorem QA : PSs X [] tNext := fun _ _ σ H _ I h => wpAny_execs_nil ⟨σ, H, I, h⟩
theorem Qe (h1 : PS X st t) (h2 : PSs X Qfn u) : PSs X (st :: Qfn) (tSeq t u) := by
 intro pins s σ H D I h
 refine wpAny_execs_cons (thn (h1 pins s σ H { D with nx := u D } I h) fun f s1 q => ?_)
 cases f with
 | next =>
  obtain ⟨σ', H', I', q⟩ := q
  exact h2 pins s1 σ' H' D I' q
 | ret v => exact q
 | brk => exact q
 | cont => exact q
theorem Qh (h1 : PS X st t) : PSs X [st] t := by
 intro pins s σ H D I h
 refine wpAny_execs_cons (thn (h1 pins s σ H D I h) fun f s1 q => ?_)
 cases f with
 | next => exact wpAny_execs_nil q
 | ret v => exact q
 | brk => exact q
 | cont => exact q
theorem Inv.quiet {pins : List (Addr × Obj)} {σ : St} {H : Hp} {s : Shared} (I : Inv X pins σ H s) : interactive X.env = false := by simp [interactive, I.ok.kind]
def tDrop (te : TE) : TS := fun D σ H => te σ H fun _ H1 => D.nx σ H1
theorem QH (he : PE X e te) (hs : swapsWith e none pos.line X.env = pure false := by rfl) : PS X (.Expr e pos) (tDrop te) := by
 intro pins s σ H D I h
 exact wpAny_Expr_any (thn (he pins s σ H _ I h) fun v s1 ⟨x, H1, I1, r1, q1⟩ => ⟨σ, H1, I1, q1⟩) I.quiet hs
def tRet (te : TE) : TS := fun D σ H => te σ H D.rt
theorem Qu (he : PE X e te) : PS X (.Return (some e) pos) (tRet te) := by
 intro pins s σ H D I h
 exact wpAny_Return_some (thn (he pins s σ H _ I h) fun v s1 ⟨x, H1, I1, r1, q1⟩ => ⟨x, σ, H1, I1, r1, q1⟩)
def tIfS (c : TT) (t u : TS) : TS := fun D σ H => c σ H fun b H1 => if b = true then t D σ H1 else u D σ H1
theorem Ze {c : Expr} {a b : List Stmt} {tc : TT} (hc : PT X c tc) (ha : PSs X a t) (hb : PSs X b u) : PS X (.If c a b pos) (tIfS tc t u) := by
 intro pins s σ H D I h
 refine wpAny_If (thn (hc pins s σ H _ I h) fun d s1 ⟨H1, I1, q1⟩ => ?_)
 cases d with
 | true => exact ha pins s1 σ H1 D I1 q1
 | false => exact hb pins s1 σ H1 D I1 q1
def Qi6 : TS := fun _ _ _ => False
theorem Qcd : PS X st Qi6 := fun _ _ _ _ _ _ h => h.elim
theorem Qdq {sts : List Stmt} : PSs X sts Qi6 := fun _ _ _ _ _ _ h => h.elim
end
abbrev TG := V → St → Hp → (St → Hp → Prop) → Prop
abbrev TGs := List V → St → Hp → (St → Hp → Prop) → Prop
def PG (X : Cx) (target : Expr) (t : TG) : Prop :=
 ∀ (pins : List (Addr × Obj)) (s : Shared) (σ : St) (H : Hp) (v : V) (u : Value) (Q : St → Hp → Prop), Inv X pins σ H s → RelV v u → t v σ H Q →
  wpAny (model X.prog X.w) X.A (assign target X.env u) (fun _ s' => ∃ σ' H', Inv X pins σ' H' s' ∧ Q σ' H') X.xe s
def PGs (X : Cx) (ts : List Expr) (t : TGs) : Prop :=
 ∀ (pins : List (Addr × Obj)) (s : Shared) (σ : St) (H : Hp) (vs : List V) (us : List Value) (Q : St → Hp → Prop), Inv X pins σ H s → Vals vs us → t vs σ H Q →
  wpAny (model X.prog X.w) X.A (assignInOrder ((assignEach ts X.env).map (·.2)) us) (fun _ s' => ∃ σ' H', Inv X pins σ' H' s' ∧ Q σ' H') X.xe s
abbrev TSet := V → V → V → Hp → (Hp → Prop) → Prop
def PSet (X : Cx) (t : TSet) : Prop :=
 ∀ (pins : List (Addr × Obj)) (s : Shared) (σ : St) (H : Hp) (o i v : V) (ov iv u : Value) (Q : Hp → Prop), Inv X pins σ H s → RelV o ov → RelV i iv → RelV v u → t o i v H Q →
  wpAny (model X.prog X.w) X.A (setItem ov iv u) (fun _ s' => ∃ H', Inv X pins σ H' s' ∧ Q H') X.xe s
abbrev TIp := V → V → Hp → VK → Prop
def PIp (X : Cx) (op : Operator) (t : TIp) : Prop :=
 ∀ (pins : List (Addr × Obj)) (s : Shared) (σ : St) (H : Hp) (x y : V) (v u : Value) (Q : VK), Inv X pins σ H s → RelV x v → RelV y u → t x y H Q →
  wpAny (model X.prog X.w) X.A (inplaceOp op v u) (EP X pins σ Q) X.xe s
section
variable {X : Cx} {pos : Pos}
def QiT (i : Nat) : TG := fun v σ H Q => Q (σ.set i (some v)) H
theorem ZH {i : Nat} {x : Str} (hN : X.N.Nodup) (hi : X.N[i]? = some x) (hx : Loc X.env.scope x) (hf : X.fn x = true ∨ X.env.scope.names.lookup x = some .local := by first | exact .inl rfl | exact .inr rfl | assumption) : PG X (.Name x pos) (QiT i) := by
 intro pins s σ H v u Q I r h
 exact wpAny_assign_Name (Qb4 I hN hi hx r (fun s' I' => ⟨_, H, I', h⟩) hf)
def gNil : TGs := fun vs σ H Q => vs = [] ∧ Q σ H
def gCons (t : TG) (u : TGs) : TGs := fun vs σ H Q => ∃ v r, vs = v :: r ∧ t v σ H fun σ' H' => u r σ' H' Q
theorem QjC : PGs X [] gNil := by
 intro pins s σ H vs us Q I r h
 obtain ⟨e, h⟩ := h
 subst e
 cases r
 exact assignInOrder_nil ⟨σ, H, I, h⟩
theorem QgB {e : Expr} {es : List Expr} {t : TG} {u : TGs} (h1 : PG X e t) (h2 : PGs X es u)
  (hs : (assignEach (e :: es) X.env).map (·.2) = assign e X.env :: (assignEach es X.env).map (·.2) := by rfl) : PGs X (e :: es) (gCons t u) := by
 intro pins s σ H vs us Q I r h
 obtain ⟨v, vr, e1, h⟩ := h
 subst e1
 cases r with
 | cons r rr =>
  rw [hs]
  refine assignInOrder_cons (thn (h1 pins s σ H _ _ _ I r h) fun _ s1 ⟨σ1, H1, I1, q1⟩ => ?_)
  exact h2 pins s1 σ1 H1 _ _ Q I1 rr q1
def gTup (K : PySem.W.Frag) (n : Nat) (t : TGs) : TG := fun v σ H Q => ∃ a xs, v = .ref a ∧ SqT K H a xs ∧ xs.length = n ∧ t xs σ H Q
theorem pg_tup {es : List Expr} {k : Nat} {t : TGs} {n : Nat} (hc : X.calm = true) (h : PGs X es t)
  (hn : (assignEach es X.env).length = n := by rfl) (hst : (assignEach es X.env).findIdx? (·.1) = none := by rfl) : PG X (.Tuple es k pos) (gTup X.K n t) := by
 intro pins s σ H v u Q I r hw
 obtain ⟨a, xs, e1, hq, hl, hw⟩ := hw
 subst e1
 cases r
 obtain ⟨its, rv, ht, hz⟩ := I.tuple hq
 refine assign_Tuple_tuple (I.ok.hd hc) ht (by simp [hn, ← hl, rv.length]) hst fun h' hx => ?_
 have I1 : Inv X pins σ H { s with heap := h' } := I.kept (t' := s.toks) fun b o e => hx b o (Nat.ne_of_lt (Heap.lt_size e)) e
 exact h pins _ σ H xs _ Q I1 (by simpa using rv) hw
def gSub (to ti : TE) (t : TSet) : TG := fun v σ H Q => to σ H fun o H1 => ti σ H1 fun i H2 => t o i v H2 fun H3 => Q σ H3
theorem Qeq {o i : Expr} {to ti : TE} {t : TSet} (ho : PE X o to) (hi : PE X i ti) (hs : PSet X t)
  (ha : ∀ v, assign (.Subscript o i pos) X.env v = (do
   let ov ← holding [v] (eval o X.env)
   let iv ← holding [v, ov] (eval i X.env)
   standAt pos
   holding [v, ov, iv] (setItem ov iv v)
   release [v, ov, iv] []) := by intro _; rfl) : PG X (.Subscript o i pos) (gSub to ti t) := by
 intro pins s σ H v u Q I r h
 rw [ha]
 refine wpAny_bind (wpAny_holding (thn (ho pins s σ H _ I h) fun ov s1 ⟨x, H1, I1, r1, q1⟩ => ?_))
 refine wpAny_bind (wpAny_holding (thn (hi pins s1 σ H1 _ I1 q1) fun iv s2 ⟨y, H2, I2, r2, q2⟩ => ?_))
 refine wpAny_bind (wpAny_standAt (wpAny_bind (wpAny_holding (thn (hs pins s2 σ H2 x y v ov iv u _ I2 r1 r2 r q2) fun _ s3 ⟨H3, I3, q3⟩ => ?_))))
 exact wpAny_release ⟨σ, H3, I3, q3⟩
def tAsg (te : TE) (g : TG) : TS := fun D σ H => te σ H fun x H1 => g x σ H1 D.nx
theorem Qen {tg e : Expr} {te : TE} {g : TG} (he : PE X e te) (hg : PG X tg g) (hs : swapsWithSole [tg] e pos.line X.env = pure false := by rfl) (hw : swappedStores [tg] e X.env = pure none := by rfl)
  (h1 : (assignEach [tg] X.env).map (·.2) = [assign tg X.env] := by rfl) : PS X (.Assign [tg] e pos) (tAsg te g) := by
 intro pins s σ H D I h
 refine wpAny_Assign_stores (thn (he pins s σ H _ I h) fun v s1 ⟨x, H1, I1, r1, q1⟩ => ?_) hs hw
 rw [h1]
 exact thn (hg pins s1 σ H1 x v _ I1 r1 q1) fun _ s2 q => q
theorem QD {i : Nat} {x : Str} {e : Expr} {te : TE} {pos' : Pos} (hN : X.N.Nodup) (hi : X.N[i]? = some x) (hx : Loc X.env.scope x) (he : PE X e te) (hs : swapsWith e (some (.Name x pos')) pos.line X.env = pure false := by rfl) (hf : X.fn x = true ∨ X.env.scope.names.lookup x = some .local := by first | exact .inl rfl | exact .inr rfl | assumption) :
  PS X (.Assign [.Name x pos'] e pos) (tAsg te (QiT i)) := by
 intro pins s σ H D I h
 refine wpAny_Assign_Name (thn (he pins s σ H _ I h) fun v s1 ⟨y, H1, I1, r1, q1⟩ => ?_) hs
 exact Qb4 I1 hN hi hx r1 (fun s2 I2 => ⟨_, H1, I2, q1⟩) hf
def tAug (i : Nat) (te : TE) (ti : TIp) : TS := fun D σ H => ∃ x, σ[i]? = some (some x) ∧ te σ H fun y H1 => ti x y H1 fun z H2 => D.nx (σ.set i (some z)) H2
theorem ps_aug {i : Nat} {x : Str} {e : Expr} {te : TE} {op : Operator} {ti : TIp} {pos' : Pos} (hN : X.N.Nodup) (hi : X.N[i]? = some x) (hx : Loc X.env.scope x) (he : PE X e te) (ho : PIp X op ti) (hf : X.fn x = true ∨ X.env.scope.names.lookup x = some .local := by first | exact .inl rfl | exact .inr rfl | assumption) :
  PS X (.AugAssign (.Name x pos') op e pos) (tAug i te ti) := by
 intro pins s σ H D I h
 obtain ⟨v, e1, h⟩ := h
 obtain ⟨m, hn, hl⟩ := I.loc
 have vis : Vis X.env.scope x := by rcases hx with k | k; exact .inl k; exact .inr (.inl k)
 obtain ⟨u, r, l⟩ := hl i x v hi e1 vis
 refine wpAny_AugAssign_Name ?_
 have go : wpAny (model X.prog X.w) X.A (eval e X.env) (fun w s₂ => wpAny (model X.prog X.w) X.A (inplaceOp op u w) (fun r s₃ => wpAny (model X.prog X.w) X.A (storeName X.env x r) (fun _ => SP X pins D .next) X.xe s₃) X.xe s₂) X.xe s := by
  refine thn (he pins s σ H _ I h) fun w s1 ⟨y, H1, I1, r1, q1⟩ => ?_
  refine thn (ho pins s1 σ H1 v y u w _ I1 r r1 q1) fun z s2 ⟨zv, H2, I2, r2, q2⟩ => ?_
  exact Qb4 I2 hN hi hx r2 (fun s3 I3 => ⟨_, H2, I3, q2⟩) hf
 rcases l with ⟨hk, hm⟩ | ⟨hk, c, hc, hcell⟩
 ·exact wpAny_loadName_local I.ok.kind hk hn hm go
 ·rcases hk with hk | hk
  ·exact wpAny_loadName_cell I.ok.kind hk hc hcell go
  ·rcases hx with k | k
   ·have : X.env.scope.names.lookup x = some .free := hk
    rw [k] at this; cases this
   ·have : X.env.scope.names.lookup x = some .free := hk
    rw [k] at this; cases this
def ipI (f : Int → Int → Int) : TIp := fun x y H Q => ∃ i j, x = .int i ∧ y = .int j ∧ Q (.int (f i j)) H
theorem ip_add : PIp X .Add (ipI fun i j => i + j) := by
 intro pins s σ H x y v u Q I r1 r2 h
 obtain ⟨i, j, e1, e2, q⟩ := h
 subst e1; subst e2
 obtain ⟨t, rfl⟩ := r1
 obtain ⟨t', rfl⟩ := r2
 exact iadd_int ⟨.int _, H, I.tok _, ⟨_, rfl⟩, q⟩
end
section
variable {X : Cx} {pos : Pos}
def Qi5 (c : TT) (tb : TS) : TS := fun D σ H => ∃ W : Nat → St → Hp → Prop, (∃ m, W m σ H) ∧ ∀ m σ H, W m σ H →
 c σ H fun b H1 => if b = true then ∃ N : St → Hp → Prop, (∀ σ' H', N σ' H' → ∃ m', m' < m ∧ W m' σ' H') ∧ tb { D with nx := N, ct := N, bk := D.nx } σ H1 else D.nx σ H1
theorem Qgy {c : Expr} {body : List Stmt} {tc : TT} {tb : TS} (hp : PassesOwn (model X.prog X.w) X.A X.env X.xe) (hc : PT X c tc) (hb : PSs X body tb) : PS X (.While c body [] pos) (Qi5 tc tb) := by
 intro pins s σ H D I h
 obtain ⟨W, ⟨m0, w0⟩, turn⟩ := h
 refine wpAny_While (codeAny_whileLoop (fun n s' => ∃ σ' H', Inv X pins σ' H' s' ∧ W n σ' H') ?_ m0 ⟨σ, H, I, w0⟩)
 rintro n s1 ⟨σ1, H1, I1, w1⟩
 refine wpAny_passesOwn hp (thn (hc pins s1 σ1 H1 _ I1 (turn n σ1 H1 w1)) fun b s2 ⟨H2, I2, q2⟩ => ?_)
 cases b with
 | true =>
  obtain ⟨N, hN, q2⟩ := q2
  rw [if_pos rfl]
  refine wpAny_passesOwn hp (thn (hb pins s2 σ1 H2 _ I2 q2) fun f s3 q3 => ?_)
  cases f with
  | next =>
   obtain ⟨σ3, H3, I3, n3⟩ := q3
   obtain ⟨m', hm, w3⟩ := hN σ3 H3 n3
   exact ⟨m', hm, σ3, H3, I3, w3⟩
  | cont =>
   obtain ⟨σ3, H3, I3, n3⟩ := q3
   obtain ⟨m', hm, w3⟩ := hN σ3 H3 n3
   exact ⟨m', hm, σ3, H3, I3, w3⟩
  | brk => exact q3
  | ret v => exact q3
 | false =>
  rw [if_neg Bool.false_ne_true]
  exact wpAny_execs_nil ⟨σ1, H2, I2, q2⟩
end
structure It where
 go : Nat → Hp → Prop
 yld : Nat → Hp → V → Hp → Prop
 stop : Nat → Hp → Prop
def Qe8 (X : Cx) (pins : List (Addr × Obj)) (H : Hp) (b : Addr) : Prop :=
 H b = none ∧ b ≠ X.env.locals ∧ b ∉ X.fs ∧ (b ∈ X.ex ∨ X.s₀.heap.objs.size ≤ b) ∧ (∀ x c, X.env.cells.lookup x = some c → c ≠ b) ∧ ∀ p ∈ X.pn ++ pins, p.1 ≠ b
theorem Inv.fpOk {X : Cx} {pins : List (Addr × Obj)} {σ : St} {H H' : Hp} {s : Shared} {b : Addr} (I : Inv X pins σ H s) (hb : s.heap.objs.size ≤ b) (hn : H' b = none) : Qe8 X pins H' b := by
 refine ⟨hn, Nat.ne_of_gt (Nat.lt_of_lt_of_le I.lt hb), I.nofs hb, .inr (Nat.le_trans I.sz hb), fun x c e z => ?_, fun p hp z => ?_⟩
 ·obtain ⟨v, q⟩ := I.cell x c e
  exact absurd (Nat.lt_of_lt_of_le q.lt (by rw [z]; exact hb)) (Nat.lt_irrefl _)
 ·exact absurd (Nat.lt_of_lt_of_le (Heap.lt_size (I.pin p hp).1) (by rw [z]; exact hb)) (Nat.lt_irrefl _)
structure Qjk (P : Program) (w : World) (K : PySem.W.Frag) (tg : Expr) (J : It) (fp : List Addr) (it : Addr) (tn : Nat → Heap → Prop) : Prop where
 mem : it ∈ fp
 obj : ∀ i h, tn i h → ∀ b ∈ fp, ∃ o, h.get? b = some o ∧ ∀ v, o.data ≠ .cell v
 keep : ∀ i h h', tn i h → (∀ b ∈ fp, ∀ o, h.get? b = some o → h'.get? b = some o) → tn i h'
 item : ∀ (X : Cx), X.prog = P → X.w = w → X.K = K → X.calm = true → ∀ (i : Nat) (pins : List (Addr × Obj)) (s : Shared) (σ : St) (H : Hp) (E : Value → Shared → Prop), Inv X pins σ H s → (∀ b ∈ fp, Qe8 X pins H b) → tn i s.heap → J.go i H →
  wpAny (model P w) X.A (pyNext (.ref it)) (fun r s1 => ∃ u, r = some u ∧
   wpAny (model P w) X.A (letOwnedTupleGo tg (.ref it) u) (fun _ s2 => ∃ x H', Inv X pins σ H' s2 ∧ RelV x u ∧ J.yld i H x H' ∧ tn (i + 1) s2.heap ∧ ∀ b ∈ fp, H' b = none) E s1) E s
 done : ∀ (X : Cx), X.prog = P → X.w = w → X.K = K → X.calm = true → ∀ (i : Nat) (pins : List (Addr × Obj)) (s : Shared) (σ : St) (H : Hp) (E : Value → Shared → Prop), Inv X pins σ H s → (∀ b ∈ fp, Qe8 X pins H b) → tn i s.heap → J.stop i H →
  wpAny (model P w) X.A (pyNext (.ref it)) (fun r s1 => r = none ∧ Inv X pins σ H s1) E s
 self : ∀ (A : Around) (i : Nat) (s : Shared) (Q : Value → Shared → Prop) (E : Value → Shared → Prop), tn i s.heap → Q (.ref it) s → wpAny (model P w) A (pyIter (.ref it)) Q E s
abbrev TI := St → Hp → (It → Hp → Prop) → Prop
def PIE (X : Cx) (pins : List (Addr × Obj)) (σ : St) (tg : Expr) (R : It → Hp → Prop) (itv : Value) (s2 : Shared) : Prop :=
 ∃ (it : Addr) (fp : List Addr) (tn : Nat → Heap → Prop) (J : It) (H' : Hp), itv = .ref it ∧ Inv X pins σ H' s2 ∧ Qjk X.prog X.w X.K tg J fp it tn ∧ tn 0 s2.heap ∧ (∀ b ∈ fp, Qe8 X pins H' b) ∧ R J H'
def PI (X : Cx) (tg iter : Expr) (wi : TI) : Prop :=
 ∀ (pins : List (Addr × Obj)) (s : Shared) (σ : St) (H : Hp) (R : It → Hp → Prop), Inv X pins σ H s → wi σ H R →
  wpAny (model X.prog X.w) X.A (eval iter X.env) (fun v s1 => wpAny (model X.prog X.w) X.A (pyIter v) (PIE X pins σ tg R) X.xe s1) X.xe s
theorem QjR {M : Model} {A : Around} {E : Value → Shared → Prop} {s : Shared} {tg : Expr} {it : Addr} {u : Value} {o : Obj} {n : String} {vs : Array Value} {Q : Unit → Shared → Prop} (ho : s.heap.get? it = some o) (hc : o.cls = .type n) (hd : o.data = .fields vs)
    (hn : ["enumerate", "zip", "dict_itemiterator", "dict_reverseitemiterator", "odict_iterator", "itertools.zip_longest", "itertools.pairwise"].contains n = false) (hQ : Q () s) : wpAny M A (letOwnedTupleGo tg (.ref it) u) Q E s := by
  unfold letOwnedTupleGo
  cases tg <;> first
    | exact wpAny_pure hQ
    | (cases u <;> first
        | exact wpAny_pure hQ
        | (refine wpAny_bind (wpAny_load ho ?_)
           rw [hc, hd]
           show wpAny M A (if (["enumerate", "zip", "dict_itemiterator", "dict_reverseitemiterator", "odict_iterator", "itertools.zip_longest", "itertools.pairwise"].contains n && vs[0]? == some (rawInt _)) = true then _ else _) Q E s
           rw [if_neg (by intro h; rw [hn, Bool.false_and] at h; cases h)]
           exact wpAny_pure hQ))
def Itl (K : PySem.W.Frag) (a : Addr) : It :=
 ⟨fun i H => ∃ xs x, SqL K H a xs ∧ xs[i]? = some x, fun i H x H' => H' = H ∧ ∀ xs, SqL K H a xs → xs[i]? = some x, fun i H => ∃ xs, SqL K H a xs ∧ xs.length ≤ i⟩
def Itt (K : PySem.W.Frag) (a : Addr) : It :=
 ⟨fun i H => ∃ xs x, SqT K H a xs ∧ xs[i]? = some x, fun i H x H' => H' = H ∧ ∀ xs, SqT K H a xs → xs[i]? = some x, fun i H => ∃ xs, SqT K H a xs ∧ xs.length ≤ i⟩
def Itr (lo : Int) (n : Nat) : It := ⟨fun i _ => i < n, fun i H x H' => H' = H ∧ x = .int (lo + i), fun i _ => n ≤ i⟩
theorem Qhm {P : Program} {w : World} {K : PySem.W.Frag} {tg : Expr} (a it : Addr) : Qjk P w K tg (Itl K a) [it] it (fun i h => h.IsListIter it a i) where
 mem := by simp
 obj := fun i h st b hb => by
  have e : b = it := by simpa using hb
  subst e
  obtain ⟨o, e, c, d⟩ := st
  exact ⟨o, e, fun v z => by rw [d] at z; cases z⟩
 keep := fun i h h' st k => st.at fun o e => k it (by simp) o e
 item := by
  intro X hP hw hK hc i pins s σ H E I hf st hg
  subst hP hw hK
  obtain ⟨xs, x, hq, hx⟩ := hg
  obtain ⟨its, rv, p, hz⟩ := I.list hq
  obtain ⟨u, hu, ru⟩ := rv.get hx
  obtain ⟨f0, f1, f2, f3, f4, f5⟩ := hf it (by simp)
  refine wpAny_pyNext_list_item st p.isList (x := u) (by simpa using hu) fun h' st' sb => ?_
  have I1 : Inv X pins σ H { s with heap := h' } := I.turned (t' := s.toks) (fun b o hb e => (sb.2 b hb).trans e) f0 f1 f3 f4 f5
  obtain ⟨o, e, c, d⟩ := id st'
  exact ⟨u, rfl, QjR (s := { s with heap := h' }) e c d (by decide) ⟨x, H, I1, ru, ⟨rfl, fun ys hy => by rw [I.list_inj hy hq]; exact hx⟩, st', fun b hb => (hf b hb).1⟩⟩
 done := by
  intro X hP hw hK hc i pins s σ H E I hf st hg
  subst hP hw hK
  obtain ⟨xs, hq, hx⟩ := hg
  obtain ⟨its, rv, p, hz⟩ := I.list hq
  obtain ⟨f0, f1, f2, f3, f4, f5⟩ := hf it (by simp)
  have hl := rv.length
  exact wpAny_pyNext_list_end (I.ok.hd hc) st p.isList (by simp; omega) fun h' eb => ⟨rfl, I.turned (t' := s.toks) (fun b o hb e => eb b o hb e) f0 f1 f3 f4 f5⟩
 self := fun _ _ _ _ _ st h => wpAny_pyIter_listiter st h
theorem QgR {P : Program} {w : World} {K : PySem.W.Frag} {tg : Expr} (a it : Addr) : Qjk P w K tg (Itt K a) [it] it (fun i h => h.IsTupleIter it a i) where
 mem := by simp
 obj := fun i h st b hb => by
  have e : b = it := by simpa using hb
  subst e
  obtain ⟨o, e, c, d⟩ := st
  exact ⟨o, e, fun v z => by rw [d] at z; cases z⟩
 keep := fun i h h' st k => st.at fun o e => k it (by simp) o e
 item := by
  intro X hP hw hK hc i pins s σ H E I hf st hg
  subst hP hw hK
  obtain ⟨xs, x, hq, hx⟩ := hg
  obtain ⟨its, rv, p, hz⟩ := I.tuple hq
  obtain ⟨u, hu, ru⟩ := rv.get hx
  obtain ⟨f0, f1, f2, f3, f4, f5⟩ := hf it (by simp)
  refine wpAny_pyNext_tuple_item st (show s.heap.IsTuple a its.toArray from p) (x := u) (by simpa using hu) fun h' st' sb => ?_
  have I1 : Inv X pins σ H { s with heap := h' } := I.turned (t' := s.toks) (fun b o hb e => (sb.2 b hb).trans e) f0 f1 f3 f4 f5
  obtain ⟨o, e, c, d⟩ := id st'
  exact ⟨u, rfl, QjR (s := { s with heap := h' }) e c d (by decide) ⟨x, H, I1, ru, ⟨rfl, fun ys hy => by rw [I.tuple_inj hy hq]; exact hx⟩, st', fun b hb => (hf b hb).1⟩⟩
 done := by
  intro X hP hw hK hc i pins s σ H E I hf st hg
  subst hP hw hK
  obtain ⟨xs, hq, hx⟩ := hg
  obtain ⟨its, rv, p, hz⟩ := I.tuple hq
  obtain ⟨f0, f1, f2, f3, f4, f5⟩ := hf it (by simp)
  have hl := rv.length
  exact wpAny_pyNext_tuple_end (I.ok.hd hc) st (show s.heap.IsTuple a its.toArray from p) (by simp; omega) fun h' eb => ⟨rfl, I.turned (t' := s.toks) (fun b o hb e => eb b o hb e) f0 f1 f3 f4 f5⟩
 self := fun _ _ _ _ _ st h => wpAny_pyIter_tupleiter st h
theorem QgS {P : Program} {w : World} {K : PySem.W.Frag} {tg : Expr} (it : Addr) (lo : Int) (n : Nat) : Qjk P w K tg (Itr lo n) [it] it (fun i h => IsRangeIter h it (lo + (i : Nat) * 1) ((n : Int) - (i : Nat)) 1) where
 mem := by simp
 obj := fun i h st b hb => by
  have e : b = it := by simpa using hb
  subst e
  exact ⟨_, st, fun v z => by
   have z' : Data.fields _ = Data.cell v := z
   cases z'⟩
 keep := fun i h h' st k => k it (by simp) _ st
 item := by
  intro X hP hw hK hc i pins s σ H E I hf st hg
  subst hP hw hK
  obtain ⟨f0, f1, f2, f3, f4, f5⟩ := hf it (by simp)
  have W := Walks.range (prog := X.prog) (w := X.w) (I.ok.hd hc) it lo 1 n
  refine W.item i s _ _ hg st fun v h' tk hv st' kk => ?_
  obtain ⟨t, rfl⟩ := hv
  have I1 : Inv X pins σ H { s with heap := h', toks := tk } := I.turned (fun b o hb e => kk b o (by simpa using hb) e) f0 f1 f3 f4 f5
  refine ⟨_, rfl, QjR (s := { s with heap := h', toks := tk }) (n := "range_iterator") st' rfl rfl (by decide) ⟨.int (lo + i), H, I1, ⟨t, ?_⟩, ⟨rfl, rfl⟩, st', fun b hb => (hf b hb).1⟩⟩
  rw [Int.mul_one]
 done := by
  intro X hP hw hK hc i pins s σ H E I hf st hg
  subst hP hw hK
  obtain ⟨f0, f1, f2, f3, f4, f5⟩ := hf it (by simp)
  exact wpAny_pyNext_range_end (I.ok.hd hc) st (by have : n ≤ i := hg; omega) fun h' eb => ⟨rfl, I.turned (t' := s.toks) (fun b o hb e => eb b o hb e) f0 f1 f3 f4 f5⟩
 self := fun _ _ _ _ _ st h => wpAny_pyIter_rangeiter st h
end L2
namespace L2
open PySem PySem.Spec PyProof.Rows
section
variable {X : Cx} {tg : Expr}
def iList (K : PySem.W.Frag) (tl : TE) : TI := fun σ H R => tl σ H fun x H1 => ∃ a, x = .ref a ∧ (∃ xs, SqL K H1 a xs) ∧ R (Itl K a) H1
def iTup (K : PySem.W.Frag) (tl : TE) : TI := fun σ H R => tl σ H fun x H1 => ∃ a, x = .ref a ∧ (∃ xs, SqT K H1 a xs) ∧ R (Itt K a) H1
theorem Z5 {l : Expr} {tl : TE} (hl : PE X l tl) : PI X tg l (iList X.K tl) := by
 intro pins s σ H R I h
 refine thn (hl pins s σ H _ I h) fun v s1 ⟨x, H1, I1, r1, q1⟩ => ?_
 obtain ⟨a, e, ⟨xs, hq⟩, q⟩ := q1
 subst e
 cases r1
 obtain ⟨its, rv, p, hz⟩ := I1.list hq
 refine wpAny_pyIter_list p.isList ?_
 refine ⟨s1.heap.objs.size, [s1.heap.objs.size], _, _, H1, rfl, I1.kept (t' := s1.toks) fun b o e => Heap.get?_push_of_some _ e, Qhm a _, ⟨_, Heap.get?_push_size _ rfl, rfl, rfl⟩, fun b hb => ?_, q⟩
 have e : b = s1.heap.objs.size := by simpa using hb
 subst e
 exact I1.fpOk (Nat.le_refl _) (I1.hok.fresh (Nat.le_refl _))
theorem pi_tup {l : Expr} {tl : TE} (hl : PE X l tl) : PI X tg l (iTup X.K tl) := by
 intro pins s σ H R I h
 refine thn (hl pins s σ H _ I h) fun v s1 ⟨x, H1, I1, r1, q1⟩ => ?_
 obtain ⟨a, e, ⟨xs, hq⟩, q⟩ := q1
 subst e
 cases r1
 obtain ⟨its, rv, p, hz⟩ := I1.tuple hq
 refine wpAny_pyIter_tuple (show s1.heap.IsTuple a its.toArray from p) ?_
 refine ⟨s1.heap.objs.size, [s1.heap.objs.size], _, _, H1, rfl, I1.kept (t' := s1.toks) fun b o e => Heap.get?_push_of_some _ e, QgR a _, ⟨_, Heap.get?_push_size _ rfl, rfl, rfl⟩, fun b hb => ?_, q⟩
 have e : b = s1.heap.objs.size := by simpa using hb
 subst e
 exact I1.fpOk (Nat.le_refl _) (I1.hok.fresh (Nat.le_refl _))
theorem Qgw {pins : List (Addr × Obj)} {σ : St} {H : Hp} {s : Shared} {R : It → Hp → Prop} {E : Value → Shared → Prop} {lo hi : Int} {t u v : Tok} {tk : Nat} (I : Inv X pins σ H s) (h1 : -(2 ^ 62) ≤ lo) (h2 : lo < 2 ^ 62) (h3 : -(2 ^ 62) ≤ hi) (h4 : hi < 2 ^ 62)
  (q : R (Itr lo (hi - lo).toNat) H) : wpAny (model X.prog X.w) X.A (pyIter (.ref s.heap.objs.size)) (PIE X pins σ tg R) E { s with heap := s.heap.push { cls := .type "range", data := .fields #[.int lo t, .int hi u, .int 1 v] }, toks := tk } := by
 refine wpAny_pyIter_range (IsRange.new ..) (small_one h1 h2 h3 h4) ?_
 have I1 : Inv X pins σ H { s with heap := s.heap.push { cls := .type "range", data := .fields #[.int lo t, .int hi u, .int 1 v] }, toks := tk } := I.kept fun b o e => Heap.get?_push_of_some _ e
 refine ⟨(s.heap.push { cls := .type "range", data := .fields #[.int lo t, .int hi u, .int 1 v] }).objs.size, [(s.heap.push { cls := .type "range", data := .fields #[.int lo t, .int hi u, .int 1 v] }).objs.size], _, _, H, rfl,
  I1.kept (t' := tk) fun b o e => Heap.get?_push_of_some _ e, QgS _ lo (hi - lo).toNat, ?_, fun b hb => ?_, q⟩
 ·have e1 : lo + ((0 : Nat) : Int) * 1 = lo := by simp
  have e2 : (((hi - lo).toNat : Nat) : Int) - ((0 : Nat) : Int) = Builtin.Range.rangeSize lo hi 1 := by rw [rangeSize_one]; split <;> omega
  show IsRangeIter _ _ (lo + ((0 : Nat) : Int) * 1) ((((hi - lo).toNat : Nat) : Int) - ((0 : Nat) : Int)) 1
  rw [e1, e2]
  exact Heap.get?_push_size _ rfl
 ·have e : b = (s.heap.push { cls := .type "range", data := .fields #[.int lo t, .int hi u, .int 1 v] }).objs.size := by simpa using hb
  subst e
  exact I1.fpOk (Nat.le_refl _) (I1.hok.fresh (Nat.le_refl _))
def iRng1 (ta : TA) : TI := fun σ H R => ta σ H fun vs H1 => ∃ j : Int, vs = [.int j] ∧ -(2 ^ 62) ≤ j ∧ j < 2 ^ 62 ∧ R (Itr 0 j.toNat) H1
def iRng2 (ta : TA) : TI := fun σ H R => ta σ H fun vs H1 => ∃ i j : Int, vs = [.int i, .int j] ∧ (-(2 ^ 62) ≤ i ∧ i < 2 ^ 62 ∧ -(2 ^ 62) ≤ j ∧ j < 2 ^ 62) ∧ R (Itr i (j - i).toNat) H1
theorem Zx {a : Expr} {ta : TA} {p pos : Pos} (hg : Gl X "range") (hm : X.mg "range" = none) (ha : PA X [a] ta) (hs : starEach [a] X.env = [(false, eval a X.env)] := by rfl) : PI X tg (.Call (.Name "range" p) [a] [] pos) (iRng1 ta) := by
 intro pins s σ H R I h
 refine Call_ (QcJ I hg hm boot_range (PyProof.Rows.callWith_type1 (thn (ha pos pins s σ H _ I h) fun us s1 ⟨vs, H1, I1, r1, q1⟩ => ?_) hs rfl))
 obtain ⟨j, e, q1, q2, q⟩ := q1
 subst e
 cases r1 with
 | cons r rr =>
  cases rr
  obtain ⟨t, rfl⟩ := r
  exact call_range_1 (Qgw I1 (by omega) (by omega) q1 q2 (by simpa using q))
theorem Qfp {a b : Expr} {ta : TA} {p pos : Pos} (hg : Gl X "range") (hm : X.mg "range" = none) (ha : PA X [a, b] ta) (hs : starEach [a, b] X.env = [(false, eval a X.env), (false, eval b X.env)] := by rfl) (hs2 : starEach [b] X.env = [(false, eval b X.env)] := by rfl) :
  PI X tg (.Call (.Name "range" p) [a, b] [] pos) (iRng2 ta) := by
 intro pins s σ H R I h
 refine Call_ (QcJ I hg hm boot_range (PyProof.Rows.callWith_type1 (thn (ha pos pins s σ H _ I h) fun us s1 ⟨vs, H1, I1, r1, q1⟩ => ?_) (by rw [hs, hs2]) (by rw [hs2]; rfl)))
 obtain ⟨i, j, e, ⟨q1, q2, q3, q4⟩, q⟩ := q1
 subst e
 cases r1 with
 | cons r rr =>
  cases rr with
  | cons r' rr =>
   cases rr
   obtain ⟨t, rfl⟩ := r
   obtain ⟨t', rfl⟩ := r'
   exact call_range_2 (Qgw I1 q1 q2 q3 q4 q)
def tFor (wi : TI) (g : TG) (tb : TS) : TS := fun D σ H => wi σ H fun J H1 => ∃ W : Nat → Nat → St → Hp → Prop, (∃ m, W 0 m σ H1) ∧ ∀ i m σ H, W i m σ H →
 (J.stop i H ∧ D.nx σ H) ∨ (J.go i H ∧ ∃ N : St → Hp → Prop, (∀ σ' H', N σ' H' → ∃ m', m' < m ∧ W (i + 1) m' σ' H') ∧ ∀ x H', J.yld i H x H' → g x σ H' fun σ2 H2 => tb { D with nx := N, ct := N, bk := D.nx } σ2 H2)
def Qds (fp : List Addr) (h : Heap) : List (Addr × Obj) := fp.filterMap fun b => (h.get? b).map fun o => (b, o)
theorem QaA {fp : List Addr} {h : Heap} {b : Addr} {o : Obj} (hb : b ∈ fp) (e : h.get? b = some o) : (b, o) ∈ Qds fp h := List.mem_filterMap.mpr ⟨b, hb, by rw [e]; rfl⟩
theorem Qh0 {fp : List Addr} {h : Heap} {p : Addr × Obj} (hp : p ∈ Qds fp h) : p.1 ∈ fp ∧ h.get? p.1 = some p.2 := by
 obtain ⟨b, hb, e⟩ := List.mem_filterMap.mp hp
 cases q : h.get? b with
 | none => rw [q] at e; cases e
 | some o =>
  rw [q] at e
  have e' : (b, o) = p := Option.some.inj e
  subst e'
  exact ⟨hb, q⟩
theorem Inv.pinned {pins : List (Addr × Obj)} {σ : St} {H : Hp} {s : Shared} {fp : List Addr} (I : Inv X pins σ H s) (hf : ∀ b ∈ fp, Qe8 X pins H b) (ho : ∀ b ∈ fp, ∃ o, s.heap.get? b = some o ∧ ∀ v, o.data ≠ .cell v) : Inv X (pins ++ Qds fp s.heap) σ H s :=
 I.pins_of fun p hp => (List.mem_append.mp hp).elim (fun z => I.pin p (List.mem_append_right _ z)) fun z => by
  obtain ⟨hb, e⟩ := Qh0 z
  obtain ⟨f0, f1, f2, _⟩ := hf p.1 hb
  obtain ⟨o, e', d⟩ := ho p.1 hb
  rw [e] at e'; cases e'
  exact ⟨e, f0, f1, f2, d⟩
theorem Inv.unpinned {pins pl : List (Addr × Obj)} {σ : St} {H : Hp} {s : Shared} (I : Inv X (pins ++ pl) σ H s) : Inv X pins σ H s := I.pins_of fun p hp => I.pin p (List.mem_append_right _ (List.mem_append_left _ hp))
theorem ZX {iter : Expr} {body : List Stmt} {wi : TI} {g : TG} {tb : TS} {pos : Pos} (hp : PassesOwn (model X.prog X.w) X.A X.env X.xe) (hc : X.calm = true) (hi : PI X tg iter wi) (hg : PG X tg g) (hb : PSs X body tb)
  (hs : ∀ x, foldedSetIterable iter X.env x = pure x := by intro _; rfl) : PS X (.For tg iter body [] pos) (tFor wi g tb) := by
 intro pins s σ H D I h
 refine wpAny_For (thn (hi pins s σ H _ I h) fun v s1 h1 => thn h1 fun itv s2 h2 => ?_) hs
 obtain ⟨it, fp, tn, J, H2, e, I2, T, st2, f2, W, ⟨m0, w0⟩, turn⟩ := h2
 subst e
 have stat : ∀ {H' : Hp}, (∀ b ∈ fp, H' b = none) → ∀ b ∈ fp, Qe8 X pins H' b := fun hn b hb => ⟨hn b hb, (f2 b hb).2⟩
 refine codeAny_forLoop_any (fun n s' => ∃ i σ' H', Inv X pins σ' H' s' ∧ tn i s'.heap ∧ (∀ b ∈ fp, H' b = none) ∧ W i n σ' H') ?_ m0 ⟨0, σ, H2, I2, st2, fun b hb => (f2 b hb).1, w0⟩
 rintro n s3 ⟨i, σ3, H3, I3, st3, fr3, w3⟩
 rcases turn i n σ3 H3 w3 with ⟨stop, qn⟩ | ⟨go, N, hN, step⟩
 ·refine wpAny_passesOwn hp (thn (T.done X rfl rfl rfl hc i pins s3 σ3 H3 X.xe I3 (stat fr3) st3 stop) fun r s4 ⟨hr, I4⟩ => ?_)
  subst hr
  exact wpAny_execs_nil ⟨σ3, H3, I4, qn⟩
 ·refine wpAny_passesOwn hp (thn (T.item X rfl rfl rfl hc i pins s3 σ3 H3 X.xe I3 (stat fr3) st3 go) fun r s4 ⟨u, hr, h4⟩ => ?_)
  subst hr
  refine wpAny_passesOwn hp (thn h4 fun _ s5 ⟨x, H5, I5, r5, y5, st5, fr5⟩ => ?_)
  have I5' := I5.pinned (stat fr5) (T.obj _ _ st5)
  refine wpAny_passesOwn hp (thn (hg _ s5 σ3 H5 x u _ I5' r5 (step x H5 y5)) fun _ s6 ⟨σ6, H6, I6, q6⟩ => ?_)
  refine wpAny_passesOwn hp (thn (hb _ s6 σ6 H6 _ I6 q6) fun f s7 q7 => ?_)
  have again : ∀ {σ7 : St} {H7 : Hp}, Inv X (pins ++ Qds fp s5.heap) σ7 H7 s7 → N σ7 H7 → ∃ m, m < n ∧ ∃ i σ' H', Inv X pins σ' H' s7 ∧ tn i s7.heap ∧ (∀ b ∈ fp, H' b = none) ∧ W i m σ' H' := fun {σ7 H7} I7 n7 => by
   obtain ⟨m', hm, w7⟩ := hN σ7 H7 n7
   refine ⟨m', hm, i + 1, σ7, H7, I7.unpinned, T.keep _ _ _ st5 fun b hb o e => (I7.pin (b, o) (List.mem_append_right _ (List.mem_append_right _ (QaA hb e)))).1, fun b hb => ?_, w7⟩
   obtain ⟨o, e, d⟩ := T.obj _ _ st5 b hb
   exact (I7.pin (b, o) (List.mem_append_right _ (List.mem_append_right _ (QaA hb e)))).2.1
  cases f with
  | next => obtain ⟨σ7, H7, I7, n7⟩ := q7; exact again I7 n7
  | cont => obtain ⟨σ7, H7, I7, n7⟩ := q7; exact again I7 n7
  | brk => obtain ⟨σ7, H7, I7, q7⟩ := q7; exact ⟨σ7, H7, I7.unpinned, q7⟩
  | ret v => obtain ⟨x7, σ7, H7, I7, r7, q7⟩ := q7; exact ⟨x7, σ7, H7, I7.unpinned, r7, q7⟩
end
theorem Qax {K : PySem.W.Frag} {a : Addr} {xs : List V} {g : TG} {tb : TS} {D : Qiz} {σ : St} {H : Hp} (Pv : Nat → St → Hp → Prop) (h0 : Pv 0 σ H) (hl : ∀ i σ H, i ≤ xs.length → Pv i σ H → SqL K H a xs)
  (hs : ∀ i x σ H, xs[i]? = some x → Pv i σ H → g x σ H fun σ2 H2 => tb { D with nx := Pv (i + 1), ct := Pv (i + 1), bk := D.nx } σ2 H2) (hd : ∀ σ H, Pv xs.length σ H → D.nx σ H) :
  ∃ W : Nat → Nat → St → Hp → Prop, (∃ m, W 0 m σ H) ∧ ∀ i m σ H, W i m σ H →
   ((Itl K a).stop i H ∧ D.nx σ H) ∨ ((Itl K a).go i H ∧ ∃ N : St → Hp → Prop, (∀ σ' H', N σ' H' → ∃ m', m' < m ∧ W (i + 1) m' σ' H') ∧ ∀ x H', (Itl K a).yld i H x H' → g x σ H' fun σ2 H2 => tb { D with nx := N, ct := N, bk := D.nx } σ2 H2) := by
 refine ⟨fun i m σ H => m = xs.length - i ∧ i ≤ xs.length ∧ Pv i σ H, ⟨xs.length, by simp, Nat.zero_le _, h0⟩, ?_⟩
 rintro i m σ H ⟨rfl, hi, p⟩
 have q := hl i σ H hi p
 by_cases hlt : i < xs.length
 ·refine .inr ⟨⟨xs, xs[i], q, by simp [hlt]⟩, Pv (i + 1), fun σ' H' p' => ⟨xs.length - (i + 1), by omega, rfl, hlt, p'⟩, fun x H' y => ?_⟩
  obtain ⟨e, y⟩ := y
  subst e
  exact hs i x σ _ (y xs q) p
 ·have e : i = xs.length := by omega
  subst e
  exact .inl ⟨⟨xs, q, Nat.le_refl _⟩, hd σ H p⟩
theorem QaJ {lo : Int} {n : Nat} {g : TG} {tb : TS} {D : Qiz} {σ : St} {H : Hp} (Pv : Nat → St → Hp → Prop) (h0 : Pv 0 σ H)
  (hs : ∀ i σ H, i < n → Pv i σ H → g (.int (lo + i)) σ H fun σ2 H2 => tb { D with nx := Pv (i + 1), ct := Pv (i + 1), bk := D.nx } σ2 H2) (hd : ∀ σ H, Pv n σ H → D.nx σ H) :
  ∃ W : Nat → Nat → St → Hp → Prop, (∃ m, W 0 m σ H) ∧ ∀ i m σ H, W i m σ H →
   ((Itr lo n).stop i H ∧ D.nx σ H) ∨ ((Itr lo n).go i H ∧ ∃ N : St → Hp → Prop, (∀ σ' H', N σ' H' → ∃ m', m' < m ∧ W (i + 1) m' σ' H') ∧ ∀ x H', (Itr lo n).yld i H x H' → g x σ H' fun σ2 H2 => tb { D with nx := N, ct := N, bk := D.nx } σ2 H2) := by
 refine ⟨fun i m σ H => m = n - i ∧ i ≤ n ∧ Pv i σ H, ⟨n, by simp, Nat.zero_le _, h0⟩, ?_⟩
 rintro i m σ H ⟨rfl, hi, p⟩
 by_cases hlt : i < n
 ·refine .inr ⟨hlt, Pv (i + 1), fun σ' H' p' => ⟨n - (i + 1), by omega, rfl, hlt, p'⟩, fun x H' y => ?_⟩
  obtain ⟨e, y⟩ := y
  subst e y
  exact hs i σ _ hlt p
 ·have e : i = n := by omega
  subst e
  exact .inl ⟨Nat.le_refl _, hd σ H p⟩
theorem Qgg {c : TT} {tb : TS} {D : Qiz} {σ : St} {H : Hp} (Pv : St → Hp → Prop) (μ : St → Hp → Nat) (h0 : Pv σ H)
  (hs : ∀ σ H, Pv σ H → c σ H fun b H1 => if b = true then tb { D with nx := fun σ' H' => Pv σ' H' ∧ μ σ' H' < μ σ H, ct := fun σ' H' => Pv σ' H' ∧ μ σ' H' < μ σ H, bk := D.nx } σ H1 else D.nx σ H1)
  (mono : ∀ σ H Q Q', (∀ b H1, Q b H1 → Q' b H1) → c σ H Q → c σ H Q') : Qi5 c tb D σ H := by
 refine ⟨fun m σ H => m = μ σ H ∧ Pv σ H, ⟨_, rfl, h0⟩, ?_⟩
 rintro m σ H ⟨rfl, p⟩
 refine mono σ H _ _ (fun b H1 q => ?_) (hs σ H p)
 cases b with
 | true => exact ⟨_, fun σ' H' ⟨p', l⟩ => ⟨_, l, rfl, p'⟩, q⟩
 | false => exact q
end L2
namespace L2
open PySem PySem.Spec PyProof.Rows
abbrev R2 := V → V → Hp → VK → Prop
def OpR (X : Cx) (f : Value → Value → Sem Value) (r : R2) : Prop :=
 ∀ (pins : List (Addr × Obj)) (s : Shared) (σ : St) (H : Hp) (x y : V) (v u : Value) (Q : VK), Inv X pins σ H s → RelV x v → RelV y u → r x y H Q →
  wpAny (model X.prog X.w) X.A (f v u) (EP X pins σ Q) X.xe s
def UnR (X : Cx) (f : Value → Sem Value) (r : V → Hp → VK → Prop) : Prop :=
 ∀ (pins : List (Addr × Obj)) (s : Shared) (σ : St) (H : Hp) (x : V) (v : Value) (Q : VK), Inv X pins σ H s → RelV x v → r x H Q →
  wpAny (model X.prog X.w) X.A (f v) (EP X pins σ Q) X.xe s
def Qc4 (X : Cx) (f : Value) (r : List V → Hp → VK → Prop) : Prop :=
 ∀ (pins : List (Addr × Obj)) (s : Shared) (σ : St) (H : Hp) (xs : List V) (us : List Value) (Q : VK), Inv X pins σ H s → Vals xs us → r xs H Q →
  wpAny (model X.prog X.w) X.A (call f us) (EP X pins σ Q) X.xe s
def tOp (r : R2) (ta tb : TE) : TE := fun σ H Q => ta σ H fun x H1 => tb σ H1 fun y H2 => r x y H2 Q
def tUn (r : V → Hp → VK → Prop) (ta : TE) : TE := fun σ H Q => ta σ H fun x H1 => r x H1 Q
def rI (C : Int → Int → Prop) (g : Int → Int → V) : R2 := fun x y H Q => ∃ i j, x = .int i ∧ y = .int j ∧ C i j ∧ Q (g i j) H
def rI0 (g : Int → Int → V) : R2 := fun x y H Q => ∃ i j, x = .int i ∧ y = .int j ∧ Q (g i j) H
def rU (g : Int → V) : V → Hp → VK → Prop := fun x H Q => ∃ i, x = .int i ∧ Q (g i) H
section
variable {X : Cx} {a b c : Expr} {ta tb tc : TE} {pos : Pos}
theorem binT (ha : PE X a ta) (hb : PE X b tb) {pins : List (Addr × Obj)} {s : Shared} {σ : St} {H : Hp} {R : V → V → Hp → Prop} (I : Inv X pins σ H s)
  (h : ta σ H fun x H1 => tb σ H1 fun y H2 => R x y H2) {Q : Value → Shared → Prop} {f : Value → Value → Sem Value}
  (hf : ∀ v u s2 x y H2, Inv X pins σ H2 s2 → RelV x v → RelV y u → R x y H2 → wpAny (model X.prog X.w) X.A (f v u) Q X.xe s2) :
  wpAny (model X.prog X.w) X.A (eval a X.env) (fun v s₁ => wpAny (model X.prog X.w) X.A (eval b X.env) (fun u s₂ => wpAny (model X.prog X.w) X.A (f v u) Q X.xe s₂) X.xe s₁) X.xe s := by
 refine thn (ha pins s σ H _ I h) fun v s1 ⟨x, H1, I1, r1, q1⟩ => ?_
 refine thn (hb pins s1 σ H1 _ I1 q1) fun u s2 ⟨y, H2, I2, r2, q2⟩ => ?_
 exact hf v u s2 x y H2 I2 r1 r2 q2
theorem QC {op : Operator} {r : R2} (ho : OpR X (binaryOp op) r) (ha : PE X a ta) (hb : PE X b tb) : PE X (.BinOp a op b pos) (tOp r ta tb) := by
 intro pins s σ H Q I h
 exact wpAny_BinOp (binT ha hb I h fun v u s2 x y H2 I2 rx ry q => ho pins s2 σ H2 x y v u Q I2 rx ry q)
theorem pe_un {op : UnaryOp} {r : V → Hp → VK → Prop} (ho : UnR X (unaryOp op) r) (ha : PE X a ta) : PE X (.UnaryOp op a pos) (tUn r ta) := by
 intro pins s σ H Q I h
 exact UnaryOp_ (thn (ha pins s σ H _ I h) fun v s1 ⟨x, H1, I1, r1, q1⟩ => ho pins s1 σ H1 x v Q I1 r1 q1)
theorem opI {f : Value → Value → Sem Value} {C : Int → Int → Prop} {g : Int → Int → Int}
  (rule : ∀ (i j : Int) (t u : Tok) (s : Shared) (Q : Value → Shared → Prop) (E : Value → Shared → Prop), C i j → Q (.int (g i j) s.toks) { s with toks := s.toks + 1 } → wpAny (model X.prog X.w) X.A (f (.int i t) (.int j u)) Q E s) :
  OpR X f (rI C fun i j => .int (g i j)) := by
 intro pins s σ H x y v u Q I rx ry h
 obtain ⟨i, j, rfl, rfl, hc, q⟩ := h
 obtain ⟨t, rfl⟩ := rx
 obtain ⟨t', rfl⟩ := ry
 exact rule i j t t' s _ _ hc ⟨.int (g i j), H, I.tok _, ⟨_, rfl⟩, q⟩
theorem opI0 {f : Value → Value → Sem Value} {g : Int → Int → Int}
  (rule : ∀ (i j : Int) (t u : Tok) (s : Shared) (Q : Value → Shared → Prop) (E : Value → Shared → Prop), Q (.int (g i j) s.toks) { s with toks := s.toks + 1 } → wpAny (model X.prog X.w) X.A (f (.int i t) (.int j u)) Q E s) :
  OpR X f (rI0 fun i j => .int (g i j)) := by
 intro pins s σ H x y v u Q I rx ry h
 obtain ⟨i, j, rfl, rfl, q⟩ := h
 obtain ⟨t, rfl⟩ := rx
 obtain ⟨t', rfl⟩ := ry
 exact rule i j t t' s _ _ ⟨.int (g i j), H, I.tok _, ⟨_, rfl⟩, q⟩
theorem opB0 {f : Value → Value → Sem Value} {g : Int → Int → Bool}
  (rule : ∀ (i j : Int) (t u : Tok) (s : Shared) (Q : Value → Shared → Prop) (E : Value → Shared → Prop), Q (.bool (g i j)) s → wpAny (model X.prog X.w) X.A (f (.int i t) (.int j u)) Q E s) :
  OpR X f (rI0 fun i j => .bl (g i j)) := by
 intro pins s σ H x y v u Q I rx ry h
 obtain ⟨i, j, rfl, rfl, q⟩ := h
 obtain ⟨t, rfl⟩ := rx
 obtain ⟨t', rfl⟩ := ry
 exact rule i j t t' s _ _ ⟨.bl (g i j), H, I, rfl, q⟩
def CDiv (i j : Int) : Prop := 0 < j ∧ j < 1073741824
def CPow (i j : Int) : Prop := 0 ≤ j ∧ j ≤ 1000000 ∧ i.natAbs < 2 ^ 64
def CMul (i j : Int) : Prop := (-(2 ^ 64) < i ∧ i < 2 ^ 64) ∨ (-(2 ^ 64) < j ∧ j < 2 ^ 64)
theorem CMul.ok {i j : Int} (h : CMul i j) : IntMulOk i j := by
 rcases h with ⟨h1, h2⟩ | ⟨h1, h2⟩
 ·exact .of_left (intBits_le_64 h1 h2)
 ·exact .of_right (intBits_le_64 h1 h2)
theorem Zo : OpR X (binaryOp .Add) (rI0 fun i j => .int (i + j)) := opI0 fun _ _ _ _ _ _ _ q => add_int q
theorem Qjc : OpR X (binaryOp .Sub) (rI0 fun i j => .int (i - j)) := opI0 fun _ _ _ _ _ _ _ q => sub_int q
theorem QgF : OpR X (binaryOp .Mult) (rI CMul fun i j => .int (i * j)) := opI fun _ _ _ _ _ _ _ hc q => mul_int q hc.ok
theorem Qbp : OpR X (binaryOp .FloorDiv) (rI CDiv fun i j => .int (i / j)) := opI fun i j _ _ _ _ _ hc q => by
 have h1 : (0 : Int) < j := hc.1
 have h2 : j < 1073741824 := hc.2
 exact floordiv_int (by omega) (by rw [Int.fdiv_eq_ediv_of_nonneg i (by omega)]; exact q) (.inl (PyProof.noPylong_small (by omega)))
theorem Q6 : OpR X (binaryOp .Mod) (rI (fun _ j => 0 < j) fun i j => .int (i % j)) := opI fun i j _ _ _ _ _ hc q => by
 have h1 : (0 : Int) < j := hc
 exact mod_int' (by omega) (by rw [Int.fmod_eq_emod_of_nonneg i (by omega)]; exact q)
theorem Qje : OpR X (binaryOp .Pow) (rI CPow fun i j => .int (i ^ j.toNat)) := opI fun _ _ _ _ _ _ _ hc q => pow_int_small hc.1 hc.2.1 hc.2.2 q
theorem unI {f : Value → Sem Value} {g : Int → Int}
  (rule : ∀ (i : Int) (t : Tok) (s : Shared) (Q : Value → Shared → Prop) (E : Value → Shared → Prop), Q (.int (g i) s.toks) { s with toks := s.toks + 1 } → wpAny (model X.prog X.w) X.A (f (.int i t)) Q E s) :
  UnR X f (rU fun i => .int (g i)) := by
 intro pins s σ H x v Q I rx h
 obtain ⟨i, rfl, q⟩ := h
 obtain ⟨t, rfl⟩ := rx
 exact rule i t s _ _ ⟨.int (g i), H, I.tok _, ⟨_, rfl⟩, q⟩
theorem Qi4 : UnR X (unaryOp .USub) (rU fun i => .int (-i)) := unI fun _ _ _ _ _ q => neg_int q
end
def scal : V → V → Bool
 | .non, .non => true | .non, .int _ => true | .int _, .non => true | .non, .bl _ => true | .bl _, .non => true | .non, .str _ => true | .str _, .non => true
 | .int _, .int _ => true | .bl _, .bl _ => true | .str _, .str _ => true | .byt _, .byt _ => true
 | .int _, .str _ => true | .str _, .int _ => true | .bl _, .str _ => true | .str _, .bl _ => true
 | _, _ => false
def rEq : R2 := fun x y H Q => scal x y = true ∧ Q (.bl (decide (x = y))) H
def rNe : R2 := fun x y H Q => scal x y = true ∧ Q (.bl (!decide (x = y))) H
theorem Qin {i j : Int} : decide (V.int i = V.int j) = (i == j) := by
 rw [Bool.eq_iff_iff]
 simp
theorem Qjj {i j : Bool} : decide (V.bl i = V.bl j) = (i == j) := by
 rw [Bool.eq_iff_iff]
 simp
theorem Qim {i j : Str} : decide (V.str i = V.str j) = (i == j) := by
 rw [Bool.eq_iff_iff]
 simp
theorem Qio {i j : Array UInt8} : decide (V.byt i = V.byt j) = (i.toList == j.toList) := by
 rw [Bool.eq_iff_iff]
 cases i
 cases j
 simp
section
variable {X : Cx} {a b c : Expr} {ta tb tc : TE} {pos : Pos}
theorem Q7 {pins : List (Addr × Obj)} {σ : St} {H : Hp} {s : Shared} {Q : VK} {k k' : Bool} (I : Inv X pins σ H s) (q : Q (.bl k) H) (e : k = k') : EP X pins σ Q (.bool k') s := by
 subst e
 exact ⟨.bl k, H, I, rfl, q⟩
theorem QeM : OpR X (compareOp .Eq) rEq := by
 intro pins s σ H x y v u Q I rx ry h
 obtain ⟨hs, q⟩ := h
 cases x with
 | non =>
  cases rx
  cases y with
  | non => cases ry; exact PySem.EqNone.eq_none_none (Q7 I q (by simp))
  | bl j => cases ry; exact PySem.EqNone.eq_none_bool (Q7 I q (by simp))
  | int j => obtain ⟨t', rfl⟩ := ry; exact PySem.EqNone.eq_none_int (Q7 I q (by simp))
  | str j => obtain ⟨t', rfl⟩ := ry; exact PySem.EqNone.eq_none_str (Q7 I q (by simp))
  | _ => exact absurd (show false = true from hs) Bool.false_ne_true
 | bl i =>
  cases rx
  cases y with
  | non => cases ry; exact PySem.EqNone.eq_bool_none (Q7 I q (by simp))
  | bl j => cases ry; exact eq_bool (Q7 I q Qjj)
  | str j => obtain ⟨t', rfl⟩ := ry; exact PySem.EqMixed.eq_bool_str (Q7 I q (by simp))
  | _ => exact absurd (show false = true from hs) Bool.false_ne_true
 | int i =>
  obtain ⟨t, rfl⟩ := rx
  cases y with
  | non => cases ry; exact PySem.EqNone.eq_int_none (Q7 I q (by simp))
  | int j => obtain ⟨t', rfl⟩ := ry; exact eq_int (Q7 I q Qin)
  | str j => obtain ⟨t', rfl⟩ := ry; exact PySem.EqMixed.eq_int_str (Q7 I q (by simp))
  | _ => exact absurd (show false = true from hs) Bool.false_ne_true
 | str i =>
  obtain ⟨t, rfl⟩ := rx
  cases y with
  | non => cases ry; exact PySem.EqNone.eq_str_none (Q7 I q (by simp))
  | bl j => cases ry; exact PySem.EqMixed.eq_str_bool (Q7 I q (by simp))
  | int j => obtain ⟨t', rfl⟩ := ry; exact PySem.EqMixed.eq_str_int (Q7 I q (by simp))
  | str j => obtain ⟨t', rfl⟩ := ry; exact eq_str (Q7 I q Qim)
  | _ => exact absurd (show false = true from hs) Bool.false_ne_true
 | byt i =>
  obtain ⟨t, rfl⟩ := rx
  cases y with
  | byt j => obtain ⟨t', rfl⟩ := ry; exact PySem.W.eq_bytes (Q7 I q Qio)
  | _ => exact absurd (show false = true from hs) Bool.false_ne_true
 | _ => cases y <;> exact absurd (show false = true from hs) Bool.false_ne_true
theorem QgY : OpR X (compareOp .NotEq) rNe := by
 intro pins s σ H x y v u Q I rx ry h
 obtain ⟨hs, q⟩ := h
 cases x with
 | non =>
  cases rx
  cases y with
  | non => cases ry; exact PySem.EqNone.ne_none_none (Q7 I q (by simp))
  | bl j => cases ry; exact PySem.EqNone.ne_none_bool (Q7 I q (by simp))
  | int j => obtain ⟨t', rfl⟩ := ry; exact PySem.EqNone.ne_none_int (Q7 I q (by simp))
  | str j => obtain ⟨t', rfl⟩ := ry; exact PySem.EqNone.ne_none_str (Q7 I q (by simp))
  | _ => exact absurd (show false = true from hs) Bool.false_ne_true
 | bl i =>
  cases rx
  cases y with
  | non => cases ry; exact PySem.EqNone.ne_bool_none (Q7 I q (by simp))
  | bl j => cases ry; exact ne_bool (Q7 I q (congrArg not Qjj))
  | str j => obtain ⟨t', rfl⟩ := ry; exact PySem.EqMixed.ne_bool_str (Q7 I q (by simp))
  | _ => exact absurd (show false = true from hs) Bool.false_ne_true
 | int i =>
  obtain ⟨t, rfl⟩ := rx
  cases y with
  | non => cases ry; exact PySem.EqNone.ne_int_none (Q7 I q (by simp))
  | int j => obtain ⟨t', rfl⟩ := ry; exact ne_int (Q7 I q (congrArg not Qin))
  | str j => obtain ⟨t', rfl⟩ := ry; exact PySem.EqMixed.ne_int_str (Q7 I q (by simp))
  | _ => exact absurd (show false = true from hs) Bool.false_ne_true
 | str i =>
  obtain ⟨t, rfl⟩ := rx
  cases y with
  | non => cases ry; exact PySem.EqNone.ne_str_none (Q7 I q (by simp))
  | bl j => cases ry; exact PySem.EqMixed.ne_str_bool (Q7 I q (by simp))
  | int j => obtain ⟨t', rfl⟩ := ry; exact PySem.EqMixed.ne_str_int (Q7 I q (by simp))
  | str j => obtain ⟨t', rfl⟩ := ry; exact ne_str (Q7 I q (congrArg not Qim))
  | _ => exact absurd (show false = true from hs) Bool.false_ne_true
 | byt i =>
  obtain ⟨t, rfl⟩ := rx
  cases y with
  | byt j => obtain ⟨t', rfl⟩ := ry; exact PySem.W.ne_bytes (Q7 I q (congrArg not Qio))
  | _ => exact absurd (show false = true from hs) Bool.false_ne_true
 | _ => cases y <;> exact absurd (show false = true from hs) Bool.false_ne_true
theorem QgZ : OpR X (compareOp .Lt) (rI0 fun i j => .bl (decide (i < j))) := opB0 fun _ _ _ _ _ _ _ q => lt_int q
theorem op_le : OpR X (compareOp .LtE) (rI0 fun i j => .bl (decide (i ≤ j))) := opB0 fun _ _ _ _ _ _ _ q => le_int q
theorem op_gt : OpR X (compareOp .Gt) (rI0 fun i j => .bl (decide (j < i))) := opB0 fun _ _ _ _ _ _ _ q => gt_int q
theorem QjF : OpR X (compareOp .GtE) (rI0 fun i j => .bl (decide (j ≤ i))) := opB0 fun _ _ _ _ _ _ _ q => ge_int q
theorem Zg (b : Expr) {op : CmpOp} (h : op ≠ .In := by decide) (h2 : op ≠ .NotIn := by decide) : behindInMarks op b = false := by
 have e1 : (op == CmpOp.In) = false := by cases op <;> first | rfl | exact absurd rfl h
 have e2 : (op == CmpOp.NotIn) = false := by cases op <;> first | rfl | exact absurd rfl h2
 cases b <;> simp [behindInMarks, e1, e2]
theorem Qf3 {op : CmpOp} {r : R2} (ho : OpR X (compareOp op) r) (ha : PE X a ta) (hb : PE X b tb) (hm : behindInMarks op b = false) : PE X (.Compare a [op] [b] pos) (tOp r ta tb) := by
 intro pins s σ H Q I h
 exact wpAny_Compare1 (binT ha hb I h fun v u s2 x y H2 I2 rx ry q => ho pins s2 σ H2 x y v u Q I2 rx ry q) hm
def tTest (t : TE) : TT := fun σ H Q => t σ H fun x H' => ∃ k, x = .bl k ∧ Q k H'
theorem QS {op : CmpOp} {r : R2} (ho : OpR X (compareOp op) r) (ha : PE X a ta) (hb : PE X b tb) (hm : behindInMarks op b = false) : PT X (.Compare a [op] [b] pos) (tTest (tOp r ta tb)) := by
 intro pins s σ H Q I h
 refine wpAny_isTrue_Compare1 (thn (ha pins s σ H _ I h) fun v s1 ⟨x, H1, I1, r1, q1⟩ => thn (hb pins s1 σ H1 _ I1 q1) fun u s2 ⟨y, H2, I2, r2, q2⟩ =>
  thn (ho pins s2 σ H2 x y v u _ I2 r1 r2 q2) fun c s3 ⟨z, H3, I3, r3, k, e, q3⟩ => ?_) hm
 subst e
 cases r3
 exact wpAny_truthy_bool ⟨H3, I3, q3⟩
theorem QgI : (sizeLine : Nat) < 2 ^ 63 := by rw [sizeLine_eq]; decide
theorem Qey {x : V} {us : List Value} (r : Vals [x] us) : ∃ u, us = [u] ∧ RelV x u := by
 cases r with
 | cons r1 r2 => cases r2; exact ⟨_, rfl, r1⟩
theorem QiA {x y : V} {us : List Value} (r : Vals [x, y] us) : ∃ u w', us = [u, w'] ∧ RelV x u ∧ RelV y w' := by
 cases r with
 | cons r1 r2 =>
  cases r2 with
  | cons r3 r4 => cases r4; exact ⟨_, _, rfl, r1, r3⟩
end
end L2
namespace L2
open PySem PySem.Spec PyProof.Rows
structure ObjM (h : Heap) (x dx C : Addr) (mA : Str → Option Value) : Prop where
 obj : h.get? x = some (PySem.W.instObj C dx)
 ns : h.Ns1 dx mA
 ne : dx ≠ x
theorem Qh3 {h : Heap} {dx : Addr} {mA : Str → Option Value} (n : h.Ns1 dx mA) : ∃ od, h.get? dx = some od ∧ ∀ name, PySem.W.lookIn name od = some (mA name) := by
 obtain ⟨o, es, ep, ho, hd, hk, _, hm⟩ := n
 refine ⟨o, ho, fun name => ?_⟩
 have e := hm name
 unfold nsFind findBy at e
 rw [← Array.find?_toList] at e
 unfold PySem.W.lookIn
 rw [hd]
 dsimp only
 split
 ·rename_i y q
  rw [q] at e
  exact congrArg some e
 ·rename_i q
  rw [q] at e
  have a : es.toList.any (·.refKey) = false := by
   rw [List.any_eq_false]
   intro y hy
   obtain ⟨z, t, hkey⟩ := hk y (Array.mem_toList_iff.mp hy)
   simp [DictEntry.refKey, hkey]
  have a' : ¬ es.toList.any (·.refKey) = true := by rw [a]; exact Bool.false_ne_true
  rw [if_neg a']
  exact congrArg some e
theorem ObjM.look {h : Heap} {x dx C : Addr} {mA : Str → Option Value} (I : ObjM h x dx C mA) : ∃ od, PySem.W.InstAt h x (PySem.W.instObj C dx) C (some od) ∧ ∀ name, PySem.W.lookIn name od = some (mA name) :=
 let ⟨od, ho, hl⟩ := Qh3 I.ns
 ⟨od, ⟨I.obj, rfl, rfl, ho⟩, hl⟩
section
variable {prog : Program} {w : World} {A : Around} {E : Value → Shared → Prop} {s : Shared} {K : PySem.W.Frag} {x dx C f : Addr} {mA : Str → Option Value} {name : Str} {v : Value}
theorem QjS {expr : Bool} {Q : Value → Shared → Prop} (X : K.In s.heap) (I : ObjM s.heap x dx C mA) (hg : PySem.W.plainGet K C name = true) (hh : PySem.W.hasDictIn K C = true)
  (ha : PySem.W.findIn K (.ref C) name = some none) (hv : mA name = some v) (hv' : PySem.W.handedIn v = true) (h : Q v { s with toks := s.toks + 1 }) :
  wpAny (model prog w) A (getAttr (.ref x) name expr) Q E s := by
 obtain ⟨od, J, hl⟩ := I.look
 exact PySem.W.get_value X J (PySem.W.plainGet_of hg).1 (PySem.W.findObj_own hh ha rfl (by rw [hl, hv])) hv' h
theorem QiS {pl : Sem Bool} {Q : Value × List Value → Shared → Prop} (X : K.In s.heap) (I : ObjM s.heap x dx C mA) (hg : PySem.W.plainGet K C name = true)
  (hf : PySem.W.findIn K (.ref C) name = some (some (.ref f))) (ht : PySem.W.isFn K (.ref f) = true) (hv : mA name = none) (h : Q (.ref f, [.ref x]) s) :
  wpAny (model prog w) A (getMethod (.ref x) name pl) Q E s := by
 obtain ⟨od, J, hl⟩ := I.look
 exact PySem.W.method_fn X J (PySem.W.plainGet_of hg).1 (PySem.W.plainGet_of hg).2 hf (beq_iff_eq.mp ht) (by show (PySem.W.lookIn name od).map (·.isSome) = some false; rw [hl, hv]; rfl) h
theorem Qjv {ns : List Str} {Q : Unit → Shared → Prop} (X : K.In s.heap) (I : ObjM s.heap x dx C mA)
  (hs : PySem.W.findIn K (.ref C) "__setattr__" = some (some (.builtin "object.__setattr__"))) (hp : PySem.W.plainOver K C = true) (ht : PySem.W.takerIn K C name = some none) (hh : PySem.W.hasDictIn K C = true)
  (hw : PySem.Within mA ns) (hsz : ns.length ≤ sizeLine)
  (h : ∀ h', ObjM h' x dx C (fun y => if y = name then some v else mA y) → Heap.SameBut dx s.heap h' → Q () { s with heap := h', toks := s.toks + 2 }) :
  wpAny (model prog w) A (setAttr (.ref x) name v) Q E s := by
 obtain ⟨od, J, hl⟩ := I.look
 refine PySem.W.set_plain X J hs (PySem.W.osa_open (s := { s with toks := s.toks + 1 }) (r := none) X J hp ht fun b => ?_)
 obtain ⟨cd, hc, hd'⟩ := PySem.W.any_some hh
 have hx : s.heap.get? x = some ⟨.ref C, some dx, .plain, #[]⟩ := I.obj
 refine wpAny_bind (wpAny_pure (wpAny_bind (wpAny_bind (wpAny_loadPart hx (wpAny_bind (PySem.W.Looks.here (s := { s with toks := s.toks + 1 }) (PySem.W.looks_clsIn X hc) ?_))))))
 rw [hd']
 refine wpAny_pure (a := some dx) (wpAny_bind (wpAny_pure (wpAny_bind ?_)))
 refine wpAny_nsSet1 (s := { s with toks := s.toks + 1 }) I.ns fun h' hn2 hs2 => ?_
 obtain ⟨oD, esD, epD, hoD, hdD, hcD⟩ := hn2.count (PySem.Within.cons name v hw)
 refine wpAny_bind (wpAny_lookBehind hoD (by rw [hdD]; exact pastItsLine_dict (Nat.le_trans hcD (by rw [List.length_cons]; omega))) ?_)
 exact wpAny_pure (h _ ⟨(hs2.2 _ (Ne.symm I.ne)).trans I.obj, hn2, I.ne⟩ hs2)
theorem QiN {R : Result → Shared → Prop} {vs : List Value} {kw : List (Str × Value)} (X : K.In s.heap) (hm : PySem.W.makesIn K C = true)
  (hi : PySem.W.findIn K (.ref C) "__init__" = some (some (.ref f))) (hf : PySem.W.typeIn K (.ref f) = some (.type "function"))
  (h : codeAny (model prog w) (A.under (.builtin "type.__call__" ⟨.ref C :: vs, kw⟩)) (.call (.ref f) ⟨.ref (s.heap.objs.size + 1) :: vs, kw⟩) (PySem.W.InitBack (s.heap.objs.size + 1) R)
   { s with heap := (s.heap.push PySem.W.emptyDict).push (PySem.W.instObj C s.heap.objs.size) }) :
  codeAny (model prog w) A (.call (.ref C) ⟨vs, kw⟩) R s := by
 obtain ⟨hh, g, d, t, os⟩ := s
 exact PySem.W.make_core (PySem.W.makes_of X hm) (PySem.W.looks_findIn X hi) (fun self => PySem.W.bind_fn X self hf) (.inl rfl) h
end
def QcU (f : Str) (v : V) : List (Str × V) → List (Str × V)
 | [] => [(f, v)]
 | (g, x) :: r => if g = f then (g, v) :: r else (g, x) :: QcU f v r
theorem QdF (f g : Str) (v : V) : ∀ fs : List (Str × V), (QcU f v fs).lookup g = if g = f then some v else fs.lookup g
 | [] => by
  show List.lookup g [(f, v)] = _
  by_cases h : g = f
  ·have hb : (g == f) = true := beq_iff_eq.mpr h
   simp only [List.lookup, hb, if_pos h]
  ·have hb : (g == f) = false := beq_eq_false_iff_ne.mpr h
   simp only [List.lookup, hb, if_neg h]
 | (k, x) :: r => by
  have ih := QdF f g v r
  rw [show QcU f v ((k, x) :: r) = (if k = f then (k, v) :: r else (k, x) :: QcU f v r) from rfl]
  by_cases hk : k = f
  ·rw [if_pos hk]
   by_cases h : g = k
   ·have hb : (g == k) = true := beq_iff_eq.mpr h
    simp only [List.lookup, hb, if_pos (h.trans hk)]
   ·have hb : (g == k) = false := beq_eq_false_iff_ne.mpr h
    simp only [List.lookup, hb, if_neg (fun e : g = f => h (e.trans hk.symm))]
  ·rw [if_neg hk]
   by_cases h : g = k
   ·have hb : (g == k) = true := beq_iff_eq.mpr h
    simp only [List.lookup, hb, if_neg (fun e : g = f => hk (h.symm.trans e))]
   ·have hb : (g == k) = false := beq_eq_false_iff_ne.mpr h
    simp only [List.lookup, hb]
    exact ih
theorem QdJ (f : Str) (v : V) : ∀ fs : List (Str × V), f ∈ (QcU f v fs).map (·.1) ∧ ∀ g, g ∈ fs.map (·.1) → g ∈ (QcU f v fs).map (·.1)
 | [] => ⟨by simp [QcU], fun g h => by simp at h⟩
 | (k, x) :: r => by
  obtain ⟨i1, i2⟩ := QdJ f v r
  rw [show QcU f v ((k, x) :: r) = (if k = f then (k, v) :: r else (k, x) :: QcU f v r) from rfl]
  by_cases hk : k = f
  ·rw [if_pos hk]
   subst hk
   exact ⟨by simp, fun g h => by simpa using h⟩
  ·rw [if_neg hk]
   refine ⟨?_, fun g h => ?_⟩
   ·rw [List.map_cons]
    exact List.mem_cons_of_mem _ i1
   ·rw [List.map_cons] at h ⊢
    rcases List.mem_cons.mp h with e | e
    ·exact List.mem_cons.mpr (.inl e)
    ·exact List.mem_cons_of_mem _ (i2 g e)
theorem QdH (f : Str) (v : V) : ∀ fs : List (Str × V), (QcU f v fs).length ≤ fs.length + 1
 | [] => by simp [QcU]
 | (k, x) :: r => by
  have ih := QdH f v r
  rw [show QcU f v ((k, x) :: r) = (if k = f then (k, v) :: r else (k, x) :: QcU f v r) from rfl]
  by_cases hk : k = f
  ·rw [if_pos hk, List.length_cons, List.length_cons]; omega
  ·rw [if_neg hk, List.length_cons, List.length_cons]; omega
theorem RelO.some_of {v : V} {o : Option Value} (r : RelO (some v) o) : ∃ u, o = some u ∧ RelV v u := by
 cases o with
 | none => exact (show False from r).elim
 | some u => exact ⟨u, rfl, r⟩
theorem RelO.none_of {o : Option Value} (r : RelO none o) : o = none := by
 cases o with
 | none => rfl
 | some u => exact (show False from r).elim
theorem Qie {v : V} {u : Value} (r : RelV v u) : PySem.W.handedIn u = true := by
 cases v with
 | non => cases (show u = Value.none from r); rfl
 | bl b => cases (show u = Value.bool b from r); rfl
 | int i => obtain ⟨t, e⟩ := (show ∃ t, u = Value.int i t from r); cases e; rfl
 | str x => obtain ⟨t, e⟩ := (show ∃ t, u = Value.str x t from r); cases e; rfl
 | byt b => obtain ⟨t, e⟩ := (show ∃ t, u = Value.bytes b t from r); cases e; rfl
 | flt b => obtain ⟨t, e⟩ := (show ∃ t, u = Value.float b t from r); cases e; rfl
 | ref a => cases (show u = Value.ref a from r); rfl
 | ty n => cases (show u = Value.type n from r); rfl
section
variable {P : Program} {w : World} {H H' : Hp} {h h' : Heap} {a C dx : Addr} {fs fs' : List (Str × V)}
theorem Qe0 (hok : HOk P w H h) (e : H a = some (.ins C dx fs)) : ∃ mA, ObjM h a dx C mA ∧ (∀ f, RelO (fs.lookup f) (mA f)) ∧ PySem.Within mA (fs.map (·.1)) ∧ fs.length ≤ 1000 ∧ H dx = some (.own a) := by
 obtain ⟨d, z, ne, ob, mA, n, r, q⟩ := (show ObjOk P w H h a (.ins C dx fs) from hok a _ e)
 exact ⟨mA, ⟨ob, n, ne⟩, r, q, z, d⟩
end
structure Cls (K : PySem.W.Frag) (C : Addr) : Prop where
 pg : PySem.W.plainGet K C Str.empty = true
 hd : PySem.W.hasDictIn K C = true
 po : PySem.W.plainOver K C = true
 sa : PySem.W.findIn K (.ref C) "__setattr__" = some (some (.builtin "object.__setattr__"))
theorem Cls.get {K : PySem.W.Frag} {C : Addr} (c : Cls K C) (f : Str) : PySem.W.plainGet K C f = true := c.pg
def NoAttr (K : PySem.W.Frag) (C : Addr) (f : Str) : Prop := PySem.W.findIn K (.ref C) f = some none
theorem NoAttr.taker {K : PySem.W.Frag} {C : Addr} {f : Str} (n : NoAttr K C f) : PySem.W.takerIn K C f = some none := by
 unfold PySem.W.takerIn
 rw [show PySem.W.findIn K (.ref C) f = some none from n]
 rfl
structure Meth (K : PySem.W.Frag) (C : Addr) (m : Str) (f : Addr) : Prop where
 at_ : PySem.W.findIn K (.ref C) m = some (some (.ref f))
 fn : PySem.W.isFn K (.ref f) = true
 kp : PySem.W.keepIn K (.ref f) = true
section
variable {X : Cx} {pins : List (Addr × Obj)} {σ : St} {H : Hp} {s : Shared} {a C dx : Addr} {fs : List (Str × V)} {f : Str} {v : V} {A : Around} {E : Value → Shared → Prop}
theorem Qg7 {b : Bool} {Q : Value → Shared → Prop} (I : Inv X pins σ H s) (e : H a = some (.ins C dx fs)) (c : Cls X.K C) (n : NoAttr X.K C f) (l : fs.lookup f = some v)
  (h : ∀ u s', Inv X pins σ H s' → RelV v u → Q u s') : wpAny (model X.prog X.w) A (getAttr (.ref a) f b) Q E s := by
 obtain ⟨mA, O, r, _, _, _⟩ := Qe0 I.hok e
 obtain ⟨u, hu, ru⟩ := RelO.some_of (v := v) (o := mA f) (by rw [← l]; exact r f)
 exact QjS I.kIn O (c.get f) c.hd n hu (Qie ru) (h u _ (I.tok _) ru)
theorem QcA {m : Str} {g : Addr} {pl : Sem Bool} {Q : Value × List Value → Shared → Prop} (I : Inv X pins σ H s) (e : H a = some (.ins C dx fs)) (c : Cls X.K C) (k : Meth X.K C m g) (l : fs.lookup m = none)
  (h : Q (.ref g, [.ref a]) s) : wpAny (model X.prog X.w) A (getMethod (.ref a) m pl) Q E s := by
 obtain ⟨mA, O, r, _, _, _⟩ := Qe0 I.hok e
 have hn : mA m = none := RelO.none_of (by rw [← l]; exact r m)
 exact QiS I.kIn O (c.get m) k.at_ k.fn hn h
theorem QgU {y : V} {u : Value} {Q : Unit → Shared → Prop} (I : Inv X pins σ H s) (e : H a = some (.ins C dx fs)) (c : Cls X.K C) (n : NoAttr X.K C f) (hl : fs.length < 1000) (ry : RelV y u)
  (h : ∀ s', Inv X pins σ (upd H a (.ins C dx (QcU f y fs))) s' → Q () s') : wpAny (model X.prog X.w) A (setAttr (.ref a) f u) Q E s := by
 obtain ⟨mA, O, r, wi, _, ho⟩ := Qe0 I.hok e
 have hz : (fs.map (·.1)).length ≤ sizeLine := by rw [List.length_map, sizeLine_eq]; omega
 refine Qjv I.kIn O c.sa c.po n.taker c.hd wi hz fun h' O' sb => h _ ?_
 have hd : ∃ o, h'.get? dx = some o := let ⟨o, _, _, e', _⟩ := O'.ns; ⟨o, e'⟩
 refine I.write (x := a) (e := dx) (by rw [e]; exact True.intro) (.inr ho) (fun b q hb z => (sb.2 b hb).trans z) hd ?_
 refine ⟨by rw [Qg O.ne]; exact ho, ?_, O.ne, O'.obj, _, O'.ns, fun g => ?_, fun g hg => ?_⟩
 ·have := QdH f y fs; omega
 ·show RelO ((QcU f y fs).lookup g) (if g = f then some u else mA g)
  rw [QdF]
  by_cases q : g = f
  ·rw [if_pos q, if_pos q]; exact ry
  ·rw [if_neg q, if_neg q]; exact r g
 ·by_cases q : g = f
  ·rw [q]; exact (QdJ f y fs).1
  ·refine (QdJ f y fs).2 g (wi g fun z => hg ?_)
   show (if g = f then some u else mA g) = none
   rw [if_neg q]; exact z
theorem Inv.made (I : Inv X pins σ H s) : Inv X pins σ (upd (upd H s.heap.objs.size (.own (s.heap.objs.size + 1))) (s.heap.objs.size + 1) (.ins C s.heap.objs.size []))
  { s with heap := (s.heap.push PySem.W.emptyDict).push (PySem.W.instObj C s.heap.objs.size) } := by
 have e1 : (s.heap.push PySem.W.emptyDict).get? s.heap.objs.size = some PySem.W.emptyDict := Heap.get?_push_size s.heap rfl
 have e2 : ((s.heap.push PySem.W.emptyDict).push (PySem.W.instObj C s.heap.objs.size)).get? (s.heap.objs.size + 1) = some (PySem.W.instObj C s.heap.objs.size) := by
  have := Heap.get?_push_size (s.heap.push PySem.W.emptyDict) (o := PySem.W.instObj C s.heap.objs.size) rfl
  rwa [Heap.size_push] at this
 have e3 : (s.heap.push PySem.W.emptyDict).Ns s.heap.objs.size (fun _ => none) := ⟨PySem.W.emptyDict, #[], _, e1, rfl, (fun e he => absurd he (by simp)), fun _ => rfl⟩
 have I1 := I.laid (a := s.heap.objs.size) (o := .own (s.heap.objs.size + 1)) (h' := s.heap.push PySem.W.emptyDict) (t' := s.toks) (fun b u q => Heap.get?_push_of_some _ q) (Nat.le_refl _) ⟨_, e1⟩
 refine I1.laid (a := s.heap.objs.size + 1) (o := .ins C s.heap.objs.size []) (t' := s.toks) (fun b u q => Heap.get?_push_of_some _ q) (Nat.le_of_eq (Heap.size_push _ _)) ?_
 have ne : s.heap.objs.size ≠ s.heap.objs.size + 1 := Nat.ne_of_lt (Nat.lt_succ_self _)
 refine ⟨by rw [Qg ne, Qb], Nat.zero_le _, ne, e2, fun _ => none, (Heap.Ns1.of_empty e3).at fun o q => Heap.get?_push_of_some _ q, fun _ => True.intro, fun y hy => absurd rfl hy⟩
theorem QjZ {prog : Program} {w : World} {env : Env} {e : Expr} {f : Str} {pos : Pos} {s : Shared} {Q : Value → Shared → Prop} (hb : attributeBase e f env (eval e env) = eval e env)
  (h : wpAny (model prog w) A (eval e env) (fun o s₁ => wpAny (model prog w) A (getAttr o f true) Q E s₁) E s) : wpAny (model prog w) A (eval (.Attribute e f pos) env) Q E s :=
 Attribute_any_ h (by rw [arm_eval_Attribute, hb])
end
def tFld (K : PySem.W.Frag) (ta : TE) (f : Str) : TE := fun σ H Q => ta σ H fun x H1 => ∃ a C dx fs v, x = .ref a ∧ H1 a = some (.ins C dx fs) ∧ Cls K C ∧ NoAttr K C f ∧ fs.lookup f = some v ∧ Q v H1
def sFld (K : PySem.W.Frag) (ta tv : TE) (f : Str) : TS := fun D σ H => tv σ H fun y H1 => ta σ H1 fun x H2 => ∃ a C dx fs, x = .ref a ∧ H2 a = some (.ins C dx fs) ∧ Cls K C ∧ NoAttr K C f ∧ fs.length < 1000 ∧
 D.nx σ (upd H2 a (.ins C dx (QcU f y fs)))
section
variable {X : Cx} {o e value : Expr} {f : Str} {pos pos' tpos : Pos} {ta tv : TE}
theorem ZM (he : PE X e ta) (hb : attributeBase e f X.env (eval e X.env) = eval e X.env) : PE X (.Attribute e f pos) (tFld X.K ta f) := by
 intro pins s σ H Q I h
 refine QjZ hb (thn (he pins s σ H _ I h) fun u s1 ⟨x, H1, I1, rx, a, C, dx, fs, v, ex, ea, c, n, l, q⟩ => ?_)
 subst ex
 obtain rfl : u = Value.ref a := rx
 exact Qg7 I1 ea c n l fun u' s2 I2 ru => ⟨v, H1, I2, ru, q⟩
theorem Qce (ha : PE X o ta) (hv : PE X value tv) (hs : swapsWith value (some (.Attribute o f pos')) pos.line X.env = pure false) : PS X (.Assign [.Attribute o f pos'] value pos) (sFld X.K ta tv f) := by
 intro pins s σ H D I h
 refine plainObj_wpAny_Assign_Attribute (thn (hv pins s σ H _ I h) fun u s1 ⟨y, H1, I1, ry, q⟩ => thn (ha pins s1 σ H1 _ I1 q) fun ov s2 ⟨x, H2, I2, rx, a, C, dx, fs, ex, ea, c, n, l, q2⟩ => ?_) hs
 subst ex
 obtain rfl : ov = Value.ref a := rx
 exact QgU I2 ea c n l ry fun s3 I3 => ⟨σ, _, I3, q2⟩
theorem QjJ {pl : Sem Bool} {m : Str} {apos : Pos} {args : List Expr} {pins : List (Addr × Obj)} {s : Shared} {σ : St} {H : Hp} {Q : Value → Shared → Prop} {te : TE} (he : PE X e te) (I : Inv X pins σ H s)
  (h : te σ H fun x H1 => ∃ a C dx fs g, x = .ref a ∧ H1 a = some (.ins C dx fs) ∧ Cls X.K C ∧ Meth X.K C m g ∧ fs.lookup m = none ∧
   ∀ s1, Inv X pins σ H1 s1 → wpAny (model X.prog X.w) X.A (callWith pos (.ref g) [.ref a] (backTo pos (starEach args X.env)) (backToKw pos (keywordEach [] X.env))) Q X.xe s1)
  (ht : eval (.Call (.Attribute e m apos) args [] pos) X.env = (do
   let ov ← eval e X.env
   standAt apos.atName
   let (f, first) ← holding [ov] (getMethod ov m pl)
   callWith pos f first (backTo pos (starEach args X.env)) (backToKw pos (keywordEach [] X.env)))) :
  wpAny (model X.prog X.w) X.A (eval (.Call (.Attribute e m apos) args [] pos) X.env) Q X.xe s := by
 refine PySem.W.methodCall_KW (pl := pl) (thn (he pins s σ H _ I h) fun u s1 ⟨x, H1, I1, rx, a, C, dx, fs, g, ex, ea, c, k, l, q⟩ => ?_) ht
 subst ex
 obtain rfl : u = Value.ref a := rx
 exact QcA I1 ea c k l (q s1 I1)
end
section
variable {X : Cx} {pins : List (Addr × Obj)} {σ : St} {H : Hp} {s : Shared} {A : Around} {E : Value → Shared → Prop} {Q : Value → Shared → Prop} {c : Value} {b : Bool}
inductive TyOf (K : PySem.W.Frag) (H : Hp) : V → Value → Prop where
 | non : TyOf K H .non (.type "NoneType")
 | bl (x : Bool) : TyOf K H (.bl x) (.type "bool")
 | int (i : Int) : TyOf K H (.int i) (.type "int")
 | str (x : Str) : TyOf K H (.str x) (.type "str")
 | flt (x : UInt64) : TyOf K H (.flt x) (.type "float")
 | lst {a : Addr} {xs : List V} (e : H a = some (.lst xs)) : TyOf K H (.ref a) (.type "list")
 | frz {a : Addr} {o : Obj} {xs : List V} (e : H a = some (.frz o (.lst xs))) : TyOf K H (.ref a) (.type "list")
 | tup {a : Addr} {xs : List V} (e : H a = some (.tup xs)) : TyOf K H (.ref a) (.type "tuple")
 | dK {a : Addr} {kvs : List (Key × V)} (e : H a = some (.dK kvs)) : TyOf K H (.ref a) (.type "dict")
 | dT {a : Addr} {kvs : List (List Key × V)} (e : H a = some (.dT kvs)) : TyOf K H (.ref a) (.type "dict")
 | ins {a C dx : Addr} {fs : List (Str × V)} (e : H a = some (.ins C dx fs)) (cl : Cls K C) (ha : PySem.W.findIn K (.ref C) "__class__" = some (some (.builtin "object.__class__")))
   (hn : PySem.W.specialIn K (.builtin "object.__class__") "__get__" = some (some (.builtin "getset_descriptor.__get__"))) (htk : PySem.W.takesIn K (.builtin "object.__class__") = some true)
   (hm : PySem.W.mroIn K C (.type "object") = some true) : TyOf K H (.ref a) (.ref C)
theorem Qh9 {x : V} {u t : Value} (I : Inv X pins σ H s) (rx : RelV x u) (ty : TyOf X.K H x t) (e : PySem.W.kitOne X.K t c = some b) (h : ∀ tk, Q (.bool b) { s with toks := tk }) :
  wpAny (model X.prog X.w) A (call (.builtin "isinstance") [u, c]) Q E s := by
 cases ty with
 | non => cases (show u = Value.none from rx); exact PySem.W.kia_one PySem.W.kitx_none I.kIn True.intro e (fun z => nomatch z) h
 | bl y => cases (show u = Value.bool y from rx); exact PySem.W.kia_one PySem.W.kitx_bool I.kIn True.intro e (fun z => nomatch z) h
 | int i => obtain ⟨t, q⟩ := (show ∃ t, u = Value.int i t from rx); cases q; exact PySem.W.kia_one PySem.W.kitx_int I.kIn True.intro e (fun z => nomatch z) h
 | str y => obtain ⟨t, q⟩ := (show ∃ t, u = Value.str y t from rx); cases q; exact PySem.W.kia_one PySem.W.kitx_str I.kIn True.intro e (fun z => nomatch z) h
 | flt y => obtain ⟨t, q⟩ := (show ∃ t, u = Value.float y t from rx); cases q; exact PySem.W.kia_one PySem.W.kitx_float I.kIn True.intro e (fun z => nomatch z) h
 | @lst a xs ea =>
  cases (show u = Value.ref a from rx)
  obtain ⟨_, _, n, _, h1⟩ := (show ObjOk X.prog X.w H s.heap a (.lst xs) from I.hok a _ ea)
  exact PySem.W.kia_one PySem.W.kitx_list I.kIn ⟨_, h1, rfl⟩ e (fun z => nomatch z) h
 | @frz a ob xs ea =>
  cases (show u = Value.ref a from rx)
  obtain ⟨_, _, _, n, _, h1⟩ := (show ObjOk X.prog X.w H s.heap a (.frz ob (.lst xs)) from I.hok a _ ea)
  exact PySem.W.kia_one PySem.W.kitx_list I.kIn ⟨_, h1, rfl⟩ e (fun z => nomatch z) h
 | @tup a xs ea =>
  cases (show u = Value.ref a from rx)
  obtain ⟨_, _, _, p⟩ := (show ObjOk X.prog X.w H s.heap a (.tup xs) from I.hok a _ ea)
  obtain ⟨o, h1, h2, _⟩ := p
  exact PySem.W.kia_one PySem.W.kitx_tuple I.kIn ⟨o, h1, h2⟩ e (fun z => nomatch z) h
 | @dK a kvs ea =>
  cases (show u = Value.ref a from rx)
  obtain ⟨_, _, vs, _, p⟩ := (show ObjOk X.prog X.w H s.heap a (.dK kvs) from I.hok a _ ea)
  obtain ⟨o, es, ep, h1, h2, _⟩ := p
  exact PySem.W.kia_one PySem.W.kitx_dict I.kIn ⟨o, h1, h2.1⟩ e (fun z => nomatch z) h
 | @dT a kvs ea =>
  cases (show u = Value.ref a from rx)
  obtain ⟨_, _, xs, _, o, es, ep, h1, h2, _⟩ := (show ObjOk X.prog X.w H s.heap a (.dT kvs) from I.hok a _ ea)
  exact PySem.W.kia_one PySem.W.kitx_dict I.kIn ⟨o, h1, h2.1⟩ e (fun z => nomatch z) h
 | @ins a C dx fs ea cl ha hn htk hm =>
  cases (show u = Value.ref a from rx)
  obtain ⟨mA, O, _⟩ := Qe0 I.hok ea
  obtain ⟨od, J, _⟩ := O.look
  exact PySem.W.kia_one (PySem.W.kitx_own (cl.get _) cl.hd ha hn htk hm) I.kIn J e (fun z => nomatch z) h
end
end L2
namespace L2
open PySem PySem.Spec PyProof.Rows
structure Room (k : Nat) (A : Around) : Prop where
 hd : A.handled = none
 dp : A.depth + 3 * k + 5 < recursionLimit
 un : A.units + 16 * k + 200 < cLine
theorem Room.mono {j k : Nat} {A : Around} (r : Room k A) (h : j ≤ k) : Room j A := ⟨r.hd, by have := r.dp; omega, by have := r.un; omega⟩
theorem Room.deeper {k : Nat} {A : Around} (r : Room (k + 1) A) (env : Env) : Room k (A.deeper env) :=
 ⟨r.hd, by have := r.dp; show A.depth + 1 + 3 * k + 5 < _; omega, by have := r.un; show A.units + 3 + 16 * k + 200 < _; omega⟩
theorem Room.in1 {k : Nat} {A : Around} (r : Room (k + 1) A) : Room k A.in1 :=
 ⟨r.hd, by have := r.dp; show A.depth + 3 * k + 5 < _; omega, by have := r.un; show A.units + 1 + 16 * k + 200 < _; omega⟩
theorem Qg3 {A : Around} {C : Addr} {us : List Value} {kw : List (Str × Value)} : (A.under (.builtin "type.__call__" ⟨.ref C :: us, kw⟩)).depth = A.depth + 1 := by
 first | rfl | simp [Around.under, Code.weight, Code.isCreation, Code.isGuard, Code.isCaller, Code.frames, Code.isFrame, guardIds]
theorem Qg2 {A : Around} {C : Addr} {us : List Value} {kw : List (Str × Value)} : (A.under (.builtin "type.__call__" ⟨.ref C :: us, kw⟩)).units = A.units + 1 := by
 first | rfl | simp [Around.under, Code.cUnits, Code.frames, Code.isFrame]
theorem Room.make {k : Nat} {A : Around} (r : Room (k + 1) A) (C : Addr) (us : List Value) (kw : List (Str × Value)) : Room k (A.under (.builtin "type.__call__" ⟨.ref C :: us, kw⟩)) :=
 ⟨r.hd, by have := r.dp; rw [Qg3]; omega, by have := r.un; rw [Qg2]; omega⟩
theorem Room.depth {k : Nat} {A : Around} (r : Room k A) : A.depth < recursionLimit := by have := r.dp; omega
theorem Room.units {k : Nat} {A : Around} (r : Room k A) : A.units + 64 < cLine := by have := r.un; omega
theorem Room.units0 {k : Nat} {A : Around} (r : Room k A) : A.units < cLine := by have := r.un; omega
def QiD : TA := fun _ H Q => Q [] H
def QgT (ta : TE) (tr : TA) : TA := fun σ H Q => ta σ H fun x H1 => tr σ H1 fun xs H2 => Q (x :: xs) H2
section
variable {X : Cx} {e : Expr} {es : List Expr} {te : TE} {t : TA} {pos : Pos}
theorem Qf : PA X [] QiD := fun _ _ _ _ H Q I h => Calls.spliced_nil ⟨[], H, I, .nil, h⟩
theorem Qa (ha : PE X e te) (hr : PA X es t) (hs : starEach (e :: es) X.env = (false, eval e X.env) :: starEach es X.env := by rfl) : PA X (e :: es) (QgT te t) := by
 intro pos pins s σ H Q I h
 rw [hs]
 show wpAny _ _ (spliced ((false, eval e X.env) :: backTo pos (starEach es X.env))) _ _ s
 refine Calls.spliced_cons (thn (ha pins s σ H _ I h) fun u s1 ⟨x, H1, I1, r1, q1⟩ => ?_)
 exact thn (hr pos pins s1 σ H1 _ I1 q1) fun us s2 ⟨xs, H2, I2, r2, q2⟩ => ⟨x :: xs, H2, I2, .cons r1 r2, q2⟩
def tTup (t : TA) : TE := fun σ H Q => t σ H fun xs H1 => xs.length ≤ sizeLine ∧ ∀ p, H1 p = none → Q (.ref p) (upd H1 p (.tup xs))
def Qjm (t : TA) : TE := fun σ H Q => t σ H fun xs H1 => xs.length ≤ sizeLine ∧ ∀ p, H1 p = none → Q (.ref p) (upd H1 p (.lst xs))
theorem QbS {x1} (h : PA X es t) : PE X (.Tuple es x1 pos) (tTup t) := by
 intro pins s σ H Q I hq
 refine wpAny_Tuple_spliced (thn (h pos pins s σ H _ I hq) fun us s1 ⟨xs, H1, I1, r, z, q⟩ => ⟨by rw [← r.length]; exact z, ?_⟩)
 have hf : H1 s1.heap.objs.size = none := I1.hok.fresh (Nat.le_refl _)
 refine ⟨.ref s1.heap.objs.size, upd H1 s1.heap.objs.size (.tup xs), I1.laid (t' := s1.toks) (fun b u e => Heap.get?_push_of_some _ e) (Nat.le_refl _) ?_, rfl, q _ hf⟩
 exact ⟨z, us, r, ⟨_, Heap.get?_push_size _ rfl, rfl, _, rfl⟩⟩
theorem ZY (h : PA X es t) : PE X (.List es pos) (Qjm t) := by
 intro pins s σ H Q I hq
 refine wpAny_List_spliced (thn (h pos pins s σ H _ I hq) fun us s1 ⟨xs, H1, I1, r, z, q⟩ => ⟨by rw [← r.length]; exact z, ?_⟩)
 have hf : H1 s1.heap.objs.size = none := I1.hok.fresh (Nat.le_refl _)
 refine ⟨.ref s1.heap.objs.size, upd H1 s1.heap.objs.size (.lst xs), I1.laid (t' := s1.toks) (fun b u e => Heap.get?_push_of_some _ e) (Nat.le_refl _) ?_, rfl, q _ hf⟩
 exact ⟨z, us, 0, r, Heap.get?_push_size _ rfl⟩
end
abbrev Sp := List V → Hp → VK → XK → Prop
abbrev CXT := List Env → Hp → Shared → XK → Value → Shared → Prop
structure Env0 (P : Program) (w : World) (K : PySem.W.Frag) (mg : Str → Option Value) (base : Heap) (A : Around) (outer : List Env) (s : Shared) (H : Hp) : Prop where
 frames : A.frames = some outer
 mod : Mod K mg base
 bs : ∀ b o, base.get? b = some o → s.heap.get? b = some o ∧ H b = none
 bsz : base.objs.size ≤ s.heap.objs.size
 funs : s.heap.FunFrames base outer
 frf : ∀ b ∈ frs outer, H b = none
 hok : HOk P w H s.heap
 bare : AllBare s.gens
def CE (outer : List Env) (P : Program) (w : World) (H : Hp) (s : Shared) (Q : VK) (u : Value) (s' : Shared) : Prop :=
 ∃ v H', s'.os = s.os ∧ AllBare s'.gens ∧ Un (frs outer) [] H H' s.heap s'.heap ∧ HOk P w H' s'.heap ∧ RelV v u ∧ Q v H'
def CR (CX : CXT) (outer : List Env) (P : Program) (w : World) (H : Hp) (s : Shared) (Q : VK) (E : XK) (r : Result) (s' : Shared) : Prop :=
 match r with
 | .ok (.ret u) => CE outer P w H s Q u s'
 | .ok _ => False
 | .error e => CX outer H s E e s'
structure FnOk (P : Program) (w : World) (K : PySem.W.Frag) (mg : Str → Option Value) (base : Heap) (CX : CXT) (k : Nat) (f : Addr) (fd : FuncData) (ps : List Str) (sp : Sp) : Prop where
 len : ∀ vs H Q E, sp vs H Q E → vs.length = ps.length
 run : ∀ (A : Around) (outer : List Env) (s : Shared) (H : Hp) (args : Args) (us : List Value) (vs : List V) (Q : VK) (E : XK), Room k A → Env0 P w K mg base A outer s H → BindsTo s fd args (ps.zip us) → Vals vs us → sp vs H Q E →
  codeAny (model P w) A (.call (.ref f) args) (CR CX outer P w H s Q E) s
theorem FnOk.mono {P : Program} {w : World} {K : PySem.W.Frag} {mg : Str → Option Value} {base : Heap} {CX : CXT} {j k : Nat} {f : Addr} {fd : FuncData} {ps : List Str} {sp : Sp} (F : FnOk P w K mg base CX j f fd ps sp) (h : j ≤ k) :
  FnOk P w K mg base CX k f fd ps sp := ⟨F.len, fun A outer s H args us vs Q E hr => F.run A outer s H args us vs Q E (hr.mono h)⟩
theorem FnOk.imp {P : Program} {w : World} {K : PySem.W.Frag} {mg : Str → Option Value} {base : Heap} {CX : CXT} {k : Nat} {f : Addr} {fd : FuncData} {ps : List Str} {sp sp' : Sp} (F : FnOk P w K mg base CX k f fd ps sp)
  (h : ∀ vs H Q E, sp' vs H Q E → sp vs H Q E) : FnOk P w K mg base CX k f fd ps sp' :=
 ⟨fun vs H Q E q => F.len vs H Q E (h _ _ _ _ q), fun A outer s H args us vs Q E hr he hb hv hs => F.run A outer s H args us vs Q E hr he hb hv (h _ _ _ _ hs)⟩
theorem Env0.make {P : Program} {w : World} {K : PySem.W.Frag} {mg : Str → Option Value} {base : Heap} {A : Around} {outer : List Env} {s : Shared} {H : Hp} (e : Env0 P w K mg base A outer s H) (C : Addr) (us : List Value) (kw : List (Str × Value)) :
  Env0 P w K mg base (A.under (.builtin "type.__call__" ⟨.ref C :: us, kw⟩)) outer s H := ⟨by first | exact e.frames | (simpa [Around.under, Code.envs, Code.isFrame, pushEnvs] using e.frames), e.mod, e.bs, e.bsz, e.funs, e.frf, e.hok, e.bare⟩
theorem Env0.in1 {P : Program} {w : World} {K : PySem.W.Frag} {mg : Str → Option Value} {base : Heap} {A : Around} {outer : List Env} {s : Shared} {H : Hp} (e : Env0 P w K mg base A outer s H) :
  Env0 P w K mg base A.in1 outer s H := ⟨e.frames, e.mod, e.bs, e.bsz, e.funs, e.frf, e.hok, e.bare⟩
section
variable {X : Cx} {pins : List (Addr × Obj)} {σ : St} {H : Hp} {s s' : Shared}
theorem Inv.env0 (I : Inv X pins σ H s) : Env0 X.prog X.w X.K X.mg X.base X.A X.stack s H :=
 ⟨I.ok.frames, I.ok.mod, I.bs, Nat.le_trans I.ok.bsz I.sz, I.stack, I.stkFree, I.hok, I.bare⟩
theorem Inv.after {Q : VK} {u : Value} (I : Inv X pins σ H s) (h : CE X.stack X.prog X.w H s Q u s') : EP X pins σ Q u s' := by
 obtain ⟨v, H', os, bare, un, hok, r, q⟩ := h
 obtain ⟨hh, g, d, t, os'⟩ := s'
 obtain rfl : os' = s.os := os
 exact ⟨v, H', I.call (h' := hh) (g' := g) (d' := d) (t' := t) (ch := []) un hok bare (fun b z => absurd z (by simp)), r, q⟩
end
def tCall (sp : Sp) (dvs : List V) (E : XK) (t : TA) : TE := fun σ H Q => t σ H fun vs H1 => sp (vs ++ dvs) H1 Q E
def tMeth (C : Addr) (m : Str) (sp : Sp) (dvs : List V) (E : XK) (ta : TE) (t : TA) : TE := fun σ H Q => ta σ H fun x H1 => ∃ a dx fs, x = .ref a ∧ H1 a = some (.ins C dx fs) ∧ fs.lookup m = none ∧
 t σ H1 fun vs H2 => sp (x :: (vs ++ dvs)) H2 Q E
def tMake (C : Addr) (sp : Sp) (dvs : List V) (E : XK) (t : TA) : TE := fun σ H Q => t σ H fun vs H1 => ∀ x dx, H1 x = none → H1 dx = none → dx ≠ x →
 sp (.ref x :: (vs ++ dvs)) (upd (upd H1 dx (.own x)) x (.ins C dx [])) (fun v H2 => v = .non ∧ Q (.ref x) H2) E
def Binds (K : PySem.W.Frag) (fd : FuncData) (ps : List Str) (ds : List Value) : Prop :=
 ∀ (s : Shared) (us : List Value), K.In s.heap → (us ++ ds).length = ps.length → BindsTo s fd ⟨us, []⟩ (ps.zip (us ++ ds))
theorem Binds.all {K : PySem.W.Frag} {fd : FuncData} {ps : List Str} (h : ∀ us : List Value, us.length = ps.length → bindArgs fd ⟨us, []⟩ = pure (ps.zip us)) : Binds K fd ps [] := fun s us _ hl => by
 rw [List.append_nil] at hl ⊢
 exact .of_eq (h us hl)
def QdV (CX : CXT) (X : Cx) (E : XK) : Prop := ∀ (pins : List (Addr × Obj)) (σ : St) (H : Hp) (s : Shared) (e : Value) (s' : Shared), Inv X pins σ H s → CX X.stack H s E e s' → X.xe e s'
section
variable {X : Cx} {CX : CXT} {k : Nat} {f C : Addr} {fd : FuncData} {ps : List Str} {sp : Sp} {dvs : List V} {ds : List Value} {E : XK} {x m : Str} {p pos apos : Pos} {e o : Expr} {es : List Expr} {ta : TE} {t : TA}
theorem QhO {pins : List (Addr × Obj)} {σ : St} {H : Hp} {s : Shared} {Q : VK} {us : List Value} {vs : List V} (F : FnOk X.prog X.w X.K X.mg X.base CX k f fd ps sp) (hr : Room k X.A) (hb : Binds X.K fd ps ds) (hd : Vals dvs ds) (hx : QdV CX X E)
  (I : Inv X pins σ H s) (r : Vals vs us) (h : sp (vs ++ dvs) H Q E) : wpAny (model X.prog X.w) X.A (call (.ref f) us) (EP X pins σ Q) X.xe s := by
 have r2 : Vals (vs ++ dvs) (us ++ ds) := r.append hd
 have hl : (us ++ ds).length = ps.length := by rw [← r2.length]; exact F.len _ _ _ _ h
 refine wpAny_call (codeAny_mono (F.run X.A X.stack s H ⟨us, []⟩ (us ++ ds) (vs ++ dvs) Q E hr I.env0 (hb s us I.kIn hl) r2 h) fun r s' hq => ?_)
 cases r with
 | error e => exact hx pins σ H s e s' I hq
 | ok fl =>
  cases fl with
  | ret u => exact I.after hq
  | next => exact False.elim hq
  | brk => exact False.elim hq
  | cont => exact False.elim hq
theorem Qm (F : FnOk X.prog X.w X.K X.mg X.base CX k f fd ps sp) (hr : Room k X.A) (hg : Gl X x) (hm : X.mg x = some (.ref f)) (hk : PySem.W.keepIn X.K (.ref f) = true) (hb : Binds X.K fd ps ds) (hd : Vals dvs ds) (hx : QdV CX X E)
  (ha : PA X (e :: es) t) (hdb : (x == ("__debug__" : Str)) = false := by decide) (he : starEach (e :: es) X.env = (false, eval e X.env) :: starEach es X.env := by rfl) (hpl : (backTo pos (starEach es X.env)).any (·.1) = false := by rfl) :
  PE X (.Call (.Name x p) (e :: es) [] pos) (tCall sp dvs E t) := by
 intro pins s σ H Q I h
 refine wpAny_Call_Name_kw (QeX I hg hm ?_ hdb)
 refine PySem.W.callWith_K (h₀ := X.base) I.ok.mod.kin hk (thn (ha pos pins s σ H _ I h) fun us s1 ⟨vs, H1, I1, r, q⟩ => ⟨I1.kIn, ?_⟩) he hpl
 exact QhO F hr hb hd hx I1 r q
theorem Qz {pl : Sem Bool} (he : PE X o ta) (c : Cls X.K C) (hm : Meth X.K C m f) (F : FnOk X.prog X.w X.K X.mg X.base CX k f fd ps sp) (hr : Room k X.A) (hb : Binds X.K fd ps ds) (hd : Vals dvs ds) (hx : QdV CX X E) (ha : PA X (e :: es) t)
  (hst : starEach (e :: es) X.env = (false, eval e X.env) :: starEach es X.env := by rfl) (hpl : (backTo pos (starEach es X.env)).any (·.1) = false := by rfl)
  (ht : eval (.Call (.Attribute o m apos) (e :: es) [] pos) X.env = (do
   let ov ← eval o X.env
   standAt apos.atName
   let (f, first) ← holding [ov] (getMethod ov m pl)
   callWith pos f first (backTo pos (starEach (e :: es) X.env)) (backToKw pos (keywordEach [] X.env))) := by rfl) :
  PE X (.Call (.Attribute o m apos) (e :: es) [] pos) (tMeth C m sp dvs E ta t) := by
 intro pins s σ H Q I h
 refine PySem.W.methodCall_KW (pl := pl) (thn (he pins s σ H _ I h) fun u s1 ⟨x, H1, I1, rx, a, dx, fs, ex, ea, l, q⟩ => ?_) ht
 subst ex
 obtain rfl : u = Value.ref a := rx
 refine QcA I1 ea c hm l ?_
 refine PySem.W.callWith_K (first := [.ref a]) (h₀ := X.base) I.ok.mod.kin hm.kp (thn (ha pos pins s1 σ H1 _ I1 q) fun us s2 ⟨vs, H2, I2, r, q2⟩ => ⟨I2.kIn, ?_⟩) hst hpl
 exact QhO (us := .ref a :: us) (vs := .ref a :: vs) F hr hb hd hx I2 (.cons rfl r) q2
theorem QeL {pl : Sem Bool} (he : PE X o ta) (c : Cls X.K C) (hm : Meth X.K C m f) (F : FnOk X.prog X.w X.K X.mg X.base CX k f fd ps sp) (hr : Room k X.A) (hb : Binds X.K fd ps ds) (hd : Vals dvs ds) (hx : QdV CX X E)
  (ht : eval (.Call (.Attribute o m apos) [] [] pos) X.env = (do
   let ov ← eval o X.env
   standAt apos.atName
   let (f, first) ← holding [ov] (getMethod ov m pl)
   callWith pos f first (backTo pos (starEach [] X.env)) (backToKw pos (keywordEach [] X.env))) := by rfl) :
  PE X (.Call (.Attribute o m apos) [] [] pos) (tMeth C m sp dvs E ta QiD) := by
 intro pins s σ H Q I h
 refine PySem.W.methodCall_KW (pl := pl) (thn (he pins s σ H _ I h) fun u s1 ⟨x, H1, I1, rx, a, dx, fs, ex, ea, l, q⟩ => ?_) ht
 subst ex
 obtain rfl : u = Value.ref a := rx
 refine QcA I1 ea c hm l ?_
 exact PySem.W.callWith_K0 (first := [.ref a]) I1.kIn hm.kp (QhO (us := [.ref a]) (vs := [.ref a]) F hr hb hd hx I1 (.cons rfl .nil) q)
structure Mk (K : PySem.W.Frag) (C f : Addr) : Prop where
 makes : PySem.W.makesIn K C = true
 init : PySem.W.findIn K (.ref C) "__init__" = some (some (.ref f))
 fn : PySem.W.isFn K (.ref f) = true
 kp : PySem.W.keepIn K (.ref C) = true
theorem QiG {pins : List (Addr × Obj)} {σ : St} {H : Hp} {s : Shared} {Q : VK} {us : List Value} {vs : List V} (M : Mk X.K C f) (F : FnOk X.prog X.w X.K X.mg X.base CX k f fd ps sp) (hr : Room (k + 1) X.A) (hb : Binds X.K fd ps ds) (hd : Vals dvs ds)
  (hx : QdV CX X E) (I : Inv X pins σ H s) (r : Vals vs us)
  (h : ∀ x dx, H x = none → H dx = none → dx ≠ x → sp (.ref x :: (vs ++ dvs)) (upd (upd H dx (.own x)) x (.ins C dx [])) (fun v H2 => v = .non ∧ Q (.ref x) H2) E) :
  wpAny (model X.prog X.w) X.A (call (.ref C) us) (EP X pins σ Q) X.xe s := by
 have hq := h (s.heap.objs.size + 1) s.heap.objs.size (I.hok.fresh (Nat.le_succ _)) (I.hok.fresh (Nat.le_refl _)) (Nat.ne_of_lt (Nat.lt_succ_self _))
 have I2 := Inv.made (C := C) I
 have r2 : Vals (V.ref (s.heap.objs.size + 1) :: (vs ++ dvs)) (Value.ref (s.heap.objs.size + 1) :: (us ++ ds)) := .cons rfl (r.append hd)
 have hl : (Value.ref (s.heap.objs.size + 1) :: us ++ ds).length = ps.length := by
  have e := r2.length
  rw [F.len _ _ _ _ hq] at e
  exact e.symm
 refine wpAny_call (QiN (f := f) I.kIn M.makes M.init (beq_iff_eq.mp M.fn) (codeAny_mono (F.run _ X.stack _ _ ⟨Value.ref (s.heap.objs.size + 1) :: us, []⟩ (Value.ref (s.heap.objs.size + 1) :: (us ++ ds)) _ _ E (hr.make C us [])
  (I2.env0.make C us []) (hb _ (Value.ref (s.heap.objs.size + 1) :: us) I2.kIn hl) r2 hq) fun r s' hq' => ?_))
 cases r with
 | error e => exact hx pins σ _ _ e s' I2 hq'
 | ok fl =>
  cases fl with
  | ret u =>
   obtain ⟨v, H', I3, rv, ev, q3⟩ := I2.after hq'
   subst ev
   exact ⟨rv, ⟨V.ref (s.heap.objs.size + 1), H', I3, rfl, q3⟩⟩
  | next => exact False.elim hq'
  | brk => exact False.elim hq'
  | cont => exact False.elim hq'
theorem QjD (M : Mk X.K C f) (F : FnOk X.prog X.w X.K X.mg X.base CX k f fd ps sp) (hr : Room (k + 1) X.A) (hg : Gl X x) (hm : X.mg x = some (.ref C)) (hb : Binds X.K fd ps ds) (hd : Vals dvs ds) (hx : QdV CX X E)
  (ha : PA X (e :: es) t) (hdb : (x == ("__debug__" : Str)) = false := by decide) (he : starEach (e :: es) X.env = (false, eval e X.env) :: starEach es X.env := by rfl) (hpl : (backTo pos (starEach es X.env)).any (·.1) = false := by rfl) :
  PE X (.Call (.Name x p) (e :: es) [] pos) (tMake C sp dvs E t) := by
 intro pins s σ H Q I h
 refine wpAny_Call_Name_kw (QeX I hg hm ?_ hdb)
 refine PySem.W.callWith_K (h₀ := X.base) I.ok.mod.kin M.kp (thn (ha pos pins s σ H _ I h) fun us s1 ⟨vs, H1, I1, r, q⟩ => ⟨I1.kIn, ?_⟩) he hpl
 exact QiG M F hr hb hd hx I1 r q
end
section
variable {X : Cx} {CX : CXT} {k : Nat} {f C : Addr} {fd : FuncData} {ps ks : List Str} {sp : Sp} {E : XK} {x m : Str} {p pos apos kpos : Pos} {e o : Expr} {es : List Expr} {kws : List Keyword} {te ta : TE} {t tk : TA} {nm : Option Str}
variable {g : List Value → List Value → List Value} {gV : List V → List V → List V}
end
structure Qk (N P : List Str) (sc : Scope) : Prop where
 kind : sc.kind = .function
 co : sc.isCoroutine = false
 gen : sc.isGenerator = false
 nd : N.Nodup
 pre : N.take P.length = P
 par : ∀ x ∈ P, sc.names.lookup x = some .local ∨ sc.names.lookup x = some .cell
 nofree : ∀ y ∈ sc.names, y.2 ≠ .free
theorem QfL {kindOf : Str → Option NameKind} {x : Str} : ∀ {binds : List (Str × Value)} {m : Str → Option Value}, (∀ v, (x, v) ∉ binds) → bindL kindOf binds m x = m x
 | [], _, _ => rfl
 | (n, v) :: r, m, h => by
  unfold bindL
  rw [QfL fun w hw => h w (List.mem_cons_of_mem _ hw)]
  split
  ·have : x ≠ n := by rintro rfl; exact h v List.mem_cons_self
   simp [this]
  ·rfl
theorem QfN {kindOf : Str → Option NameKind} {x : Str} : ∀ {binds : List (Str × Value)} {m : Str → Option Value}, (∀ v, (x, v) ∉ binds) → bindC kindOf binds m x = m x
 | [], _, _ => rfl
 | (n, v) :: r, m, h => by
  unfold bindC
  rw [QfN fun w hw => h w (List.mem_cons_of_mem _ hw)]
  split
  ·rfl
  ·have : x ≠ n := by rintro rfl; exact h v List.mem_cons_self
   simp [this]
theorem QfM {kindOf : Str → Option NameKind} {x : Str} {v : Value} : ∀ {P : List Str} {vs : List Value} {i : Nat} {m : Str → Option Value}, P.Nodup → P[i]? = some x → vs[i]? = some v → kindOf x = some .local →
  bindL kindOf (P.zip vs) m x = some v
 | [], _, _, _, _, h, _, _ => by simp at h
 | _ :: _, [], _, _, _, _, h, _ => by simp at h
 | p :: P, w :: vs, 0, m, nd, h1, h2, hk => by
  simp at h1 h2; subst h1; subst h2
  show bindL kindOf ((p, w) :: P.zip vs) m p = _
  unfold bindL
  rw [QfL fun v hv => (List.nodup_cons.mp nd).1 (List.of_mem_zip hv).1, if_pos hk]
  simp
 | p :: P, w :: vs, i + 1, m, nd, h1, h2, hk => by
  show bindL kindOf ((p, w) :: P.zip vs) m x = _
  unfold bindL
  exact QfM (i := i) (List.nodup_cons.mp nd).2 (by simpa using h1) (by simpa using h2) hk
theorem QfO {kindOf : Str → Option NameKind} {x : Str} {v : Value} : ∀ {P : List Str} {vs : List Value} {i : Nat} {m : Str → Option Value}, P.Nodup → P[i]? = some x → vs[i]? = some v → kindOf x ≠ some .local →
  bindC kindOf (P.zip vs) m x = some v
 | [], _, _, _, _, h, _, _ => by simp at h
 | _ :: _, [], _, _, _, _, h, _ => by simp at h
 | p :: P, w :: vs, 0, m, nd, h1, h2, hk => by
  simp at h1 h2; subst h1; subst h2
  show bindC kindOf ((p, w) :: P.zip vs) m p = _
  unfold bindC
  rw [QfN fun v hv => (List.nodup_cons.mp nd).1 (List.of_mem_zip hv).1, if_neg hk]
  simp
 | p :: P, w :: vs, i + 1, m, nd, h1, h2, hk => by
  show bindC kindOf ((p, w) :: P.zip vs) m x = _
  unfold bindC
  exact QfO (i := i) (List.nodup_cons.mp nd).2 (by simpa using h1) (by simpa using h2) hk
def Qez (N : List Str) (vs : List V) : St := vs.map some ++ List.replicate (N.length - vs.length) none
def QjW (CX : CXT) (P : Program) (w : World) (K : PySem.W.Frag) (mg : Str → Option Value) (base : Heap) (N : List Str) (qual : Str) (scope : Scope) (f : Addr) (cd : Value) (A : Around) (outer : List Env) (s : Shared) (H : Hp) (E : XK) : Cx where
 prog := P
 w := w
 K := K
 mg := mg
 base := base
 A := A.deeper (envOfC qual scope s.heap.objs.size f cd)
 N := N
 s₀ := s
 H₀ := H
 env := envOfC qual scope s.heap.objs.size f cd
 outer := outer
 stack := envOfC qual scope s.heap.objs.size f cd :: outer
 ex := []
 calm := true
 fn := fun _ => true
 pn := []
 xe := fun e s' => wpAny (model P w) (A.deeper (envOfC qual scope s.heap.objs.size f cd)) (leaving (envOfC qual scope s.heap.objs.size f cd) e) (fun _ s'' => CX outer H s E e s'') (fun e' s'' => CX outer H s E e' s'') s'
theorem QgN {sc : Scope} {n : Nat} {x : Str} (h : sc.names.lookup x = some .cell) : ∃ c, (cellsFrom n sc.names []).lookup x = some c := by
 have q := PySem.W.cellsFrom_some sc.names n [] (.inl h)
 exact Option.isSome_iff_exists.mp q
theorem Qia {CX : CXT} {P : Program} {w : World} {K : PySem.W.Frag} {mg : Str → Option Value} {base : Heap} {N ps : List Str} {qual : Str} {scope : Scope} {f : Addr} {cd : Value} {A : Around} {outer : List Env} {s s1 : Shared} {H : Hp} {E : XK} {us : List Value} {vs : List V}
  (S : Qk N ps scope) (hd : A.handled = none) (e0 : Env0 P w K mg base A outer s H) (hl : vs.length = ps.length) (r : Vals vs us)
  (x : InCallC s s.heap.objs.size (bindL (envOfC qual scope s.heap.objs.size f cd).kindOf (ps.zip us) fun _ => none) (cellsFrom (s.heap.objs.size + 1) scope.names []) (bindC (envOfC qual scope s.heap.objs.size f cd).kindOf (ps.zip us) fun _ => none) s1) :
  Inv (QjW CX P w K mg base N qual scope f cd A outer s H E) [] (Qez N vs) H s1 := by
 have hpl : ps.length ≤ N.length := by have := congrArg List.length S.pre; rw [List.length_take] at this; omega
 obtain ⟨h1, tk, rfl, hk⟩ := x.done
 have noA : ∀ b : Addr, b ∉ (QjW CX P w K mg base N qual scope f cd A outer s H E).ex := fun b z => absurd (show b ∈ ([] : List Addr) from z) (by simp)
 refine ⟨⟨e0.mod, S.kind, rfl, rfl, Nat.le_refl _, fun y z c h1 h2 => ?_, fun y hy => ?_, fun y c _ h => ?_, fun _ => hd, Around.frames_deeper e0.frames, .inr ⟨rfl, rfl⟩, fun b z => absurd z (noA b), e0.bs, e0.bsz, fun b _ _ => noA b, fun b z => absurd z (noA b), e0.funs, e0.frf⟩,
  rfl, e0.bare, Un.kept hk, ⟨_, x.toInCall.ns, fun i y v h1 h2 h3 => ?_⟩, fun y c h => ⟨_, x.cell y c h⟩, e0.hok.fresh (Nat.le_refl _), fun y c h => ?_, fun p hp => absurd (show p ∈ ([] : List (Addr × Obj)) from hp) (by simp), e0.hok.kept hk, ?_⟩
 ·exact name_of_addr x.apart (PySem.mem_of_lookup h1) (PySem.mem_of_lookup h2)
 ·have hy : scope.names.lookup y = some .cell ∨ scope.names.lookup y = some .free := hy
  rcases hy with hy | hy
  ·exact QgN hy
  ·exact absurd rfl (S.nofree _ (PySem.mem_of_lookup hy))
 ·exact Nat.le_of_lt (x.above y c (PySem.mem_of_lookup h))
 ·have hi : i < vs.length := by
   unfold Qez at h2
   by_cases hi : i < vs.length
   ·exact hi
   ·rw [List.getElem?_append_right (by simpa using hi)] at h2
    rw [List.getElem?_replicate] at h2
    split at h2 <;> cases h2
  have ha : vs[i]? = some v := by
   unfold Qez at h2
   rw [List.getElem?_append_left (by simpa using hi), List.getElem?_map] at h2
   cases e : vs[i]? with
   | none => rw [e] at h2; cases h2
   | some a => rw [e] at h2; cases h2; rfl
  obtain ⟨u, hu, rv⟩ := r.get ha
  have hp : ps[i]? = some y := by
   rw [← S.pre, List.getElem?_take_of_lt (by omega)]; exact h1
  have ndP : ps.Nodup := by rw [← S.pre]; exact S.nd.sublist (List.take_sublist _ _)
  refine ⟨u, rv, ?_⟩
  rcases S.par y (List.mem_of_getElem? hp) with k | k
  ·exact .inl ⟨k, QfM ndP hp hu k⟩
  ·obtain ⟨c, e⟩ := QgN (n := s.heap.objs.size + 1) k
   refine .inr ⟨.inl k, c, e, ?_⟩
   have q := x.cell y c e
   rw [QfO ndP hp hu (by show scope.names.lookup y ≠ _; rw [k]; decide)] at q
   exact q
 ·exact e0.hok.fresh (Nat.le_of_lt (x.above y c (PySem.mem_of_lookup h)))
 ·unfold Qez
  show _ = N.length
  rw [List.length_append, List.length_map, List.length_replicate]
  omega
theorem fn_of {CX : CXT} {P : Program} {w : World} {K : PySem.W.Frag} {mg : Str → Option Value} {base : Heap} {k : Nat} {f : Addr} {name qual : Str} {params : Arguments} {body : List Stmt} {scope : Scope} {dV kV doc pm cdv ct oc : Value} {an od : Option Addr}
  {osl : Array (Option Value)} {N ps : List Str} {sp : Sp} (lk : K.lookup f = some ⟨oc, od, .func (PySem.W.fnOf name qual params body scope dV kV doc pm an cdv ct), osl⟩) (hcd : PySem.W.codeIn K cdv qual = true) (S : Qk N ps scope)
  (len : ∀ vs H Q E, sp vs H Q E → vs.length = ps.length)
  (hbody : ∀ (A : Around) (outer : List Env) (s : Shared) (H : Hp) (vs : List V) (Q : VK) (E : XK), Room k (A.deeper (envOfC qual scope s.heap.objs.size f cdv)) → sp vs H Q E →
   ∃ t, PSs (QjW CX P w K mg base N qual scope f cdv A outer s H E) body t ∧ t { nx := fun _ H' => Q .non H', rt := Q } (Qez N vs) H) :
  FnOk P w K mg base CX (k + 1) f (PySem.W.fnOf name qual params body scope dV kV doc pm an cdv ct) ps sp := by
 refine ⟨len, fun A outer s H args us vs Q E hr e0 hb r hsp => ?_⟩
 have hl := len _ _ _ _ hsp
 have KX : K.In s.heap := e0.mod.kin.keeps fun b o e => (e0.bs b o e).1
 have lim : s.heap.NoLimit := e0.mod.nolimit.keeps fun b o e => (e0.bs b o e).1
 have hkind : ∀ y ∈ ps.zip us, scope.names.lookup y.1 = some .local ∨ (scope.names.lookup y.1 = some .cell ∧ ((cellsFrom (s.heap.objs.size + 1) scope.names []).lookup y.1).isSome = true) := fun ⟨n, v⟩ hy => by
  rcases S.par n (List.of_mem_zip hy).1 with q | q
  ·exact .inl q
  ·exact .inr ⟨q, PySem.W.cellsFrom_some _ _ _ (.inl q)⟩
 refine codeAny_call_function hr.depth (KX _ _ lk) rfl S.co S.gen rfl (PySem.W.codeRec_of KX hcd) (hb _ _ _ _ ?_)
 refine wpAny_newFunctionEnv_cells S.kind hkind fun env he s1 x => ?_
 subst he
 refine ⟨lim.keeps x.toInCall.keep, codeAny_func ?_⟩
 obtain ⟨t, ht, hq⟩ := hbody A outer s H vs Q E (hr.deeper _) hsp
 have I : Inv (QjW CX P w K mg base N qual scope f cdv A outer s H E) [] (Qez N vs) H s1 := Qia S hr.hd e0 hl r x
 refine wpAny_mono (ht [] s1 (Qez N vs) H _ I hq) (fun fl s' hs => ?_) fun e s' hs => hs
 have fin : ∀ {σ' : St} {H' : Hp} {v : V} {u : Value}, Inv (QjW CX P w K mg base N qual scope f cdv A outer s H E) [] σ' H' s' → RelV v u → Q v H' → CE outer P w H s Q u s' :=
  fun {σ' H' v u} J rv q => ⟨v, H', J.os, J.bare, J.base, J.hok, rv, q⟩
 cases fl with
 | ret u =>
  obtain ⟨v, σ', H', J, rv, q⟩ := hs
  exact fin J rv q
 | next =>
  obtain ⟨σ', H', J, q⟩ := hs
  exact fin (v := V.non) (u := Value.none) J rfl q
 | brk =>
  obtain ⟨_, _, _, q⟩ := hs
  exact False.elim q
 | cont =>
  obtain ⟨_, _, _, q⟩ := hs
  exact False.elim q
end L2
namespace L2
open PySem PySem.Spec PyProof.Rows
section
variable {X : Cx} {x : Str} {p pos : Pos} {e : Expr} {es : List Expr} {t : TA} {id T : String} {r : List V → Hp → VK → Prop}
def tCB (r : List V → Hp → VK → Prop) (t : TA) : TE := fun σ H Q => t σ H fun vs H1 => r vs H1 Q
theorem Qv (hc : Qc4 X (.builtin id) r) (hg : Gl X x) (hm : X.mg x = none) (hv : bootBuiltins x = some (.builtin id)) (ha : PA X (e :: es) t) (hn : x ≠ "__name__" := by decide) (hdb : (x == ("__debug__" : Str)) = false := by decide)
  (he : starEach (e :: es) X.env = (false, eval e X.env) :: starEach es X.env := by rfl) (hpl : (backTo pos (starEach es X.env)).any (·.1) = false := by rfl) : PE X (.Call (.Name x p) (e :: es) [] pos) (tCB r t) := by
 intro pins s σ H Q I h
 refine wpAny_Call_Name_kw (QcJ I hg hm hv ?_ hn hdb)
 exact PyProof.Rows.callWith_builtin1 (thn (ha pos pins s σ H _ I h) fun us s1 ⟨vs, H1, I1, r1, q1⟩ => hc pins s1 σ H1 vs us Q I1 r1 q1) he hpl
theorem QaP (hc : Qc4 X (.type T) r) (hg : Gl X x) (hm : X.mg x = none) (hv : bootBuiltins x = some (.type T)) (ha : PA X (e :: es) t) (hn : x ≠ "__name__" := by decide) (hdb : (x == ("__debug__" : Str)) = false := by decide)
  (he : starEach (e :: es) X.env = (false, eval e X.env) :: starEach es X.env := by rfl) (hpl : (backTo pos (starEach es X.env)).any (·.1) = false := by rfl) : PE X (.Call (.Name x p) (e :: es) [] pos) (tCB r t) := by
 intro pins s σ H Q I h
 refine wpAny_Call_Name_kw (QcJ I hg hm hv ?_ hn hdb)
 exact PyProof.Rows.callWith_type1 (thn (ha pos pins s σ H _ I h) fun us s1 ⟨vs, H1, I1, r1, q1⟩ => hc pins s1 σ H1 vs us Q I1 r1 q1) he hpl
end
end L2
namespace HT
open PySem PyProof.Rows
section
open PySem.SeqAt
open PySem.AutoSeq1 (wpAny_loadPart')
open PySem.MeetsSeq PySem.MeetsSeq2 PySem.MeetsSeq3
end
section
variable {prog : Program} {w : World} {A : Around} {E : Value → Shared → Prop} {s : Shared}
def sIx (n d : Nat) : Option Int → Nat
 | none => d
 | some v => if v < 0 then (v + (n : Int)).toNat else min v.toNat n
end
end HT
namespace L2
open PySem PySem.Spec PyProof.Rows
abbrev TO := St → Hp → (Option Int → Hp → Prop) → Prop
section
variable {X : Cx} {e : Expr} {te : TE} {lo hi : Option Expr} {tl th : TO} {pos p2 : Pos}
def SlR (X : Cx) (r : V → Option Int → Option Int → Hp → VK → Prop) : Prop :=
 ∀ (pins : List (Addr × Obj)) (s : Shared) (σ : St) (H : Hp) (x : V) (v vl vu : Value) (lo hi : Option Int) (sl : Addr) (Q : VK), Inv X pins σ H s → RelV x v → s.heap.IsSliceOf sl vl vu .none → IsPart vl lo → IsPart vu hi → r x lo hi H Q →
  ∃ T id, typeLookup (.type T) "__getitem__" = pure (some (.builtin id)) ∧ s.TypeIs v T ∧ wpAny (model X.prog X.w) X.A (getItem v (.ref sl)) (EP X pins σ Q) X.xe s
def cutV (xs : List V) (lo hi : Option Int) : List V := (xs.drop (HT.sIx xs.length 0 lo)).take (HT.sIx xs.length xs.length hi - HT.sIx xs.length 0 lo)
theorem Qgd (xs : List V) (lo hi : Option Int) : (cutV xs lo hi).length ≤ xs.length := by
 unfold cutV
 rw [List.length_take, List.length_drop]
 omega
end
end L2
namespace L2
open PySem PySem.Spec PyProof.Rows
def ixN (n : Nat) (i : Int) : Option Nat := if 0 ≤ i then (if i < n then some i.toNat else none) else if -(n : Int) ≤ i then some (i + n).toNat else none
def atI {α : Type} (xs : List α) (i : Int) : Option α := (ixN xs.length i).bind fun j => xs[j]?
theorem Qh8 {n : Nat} {i : Int} {j : Nat} (h : ixN n i = some j) : seqIndex? i n = some j ∧ j < n ∧ -(n : Int) ≤ i ∧ i < n := by
 unfold ixN at h
 by_cases h0 : 0 ≤ i
 ·rw [if_pos h0] at h
  by_cases h1 : i < n
  ·rw [if_pos h1] at h
   have e : i.toNat = j := Option.some.inj h
   exact ⟨by rw [seqIndex_of h0 h1, e], by omega, by omega, h1⟩
  ·rw [if_neg h1] at h; cases h
 ·rw [if_neg h0] at h
  by_cases h1 : -(n : Int) ≤ i
  ·rw [if_pos h1] at h
   have e : (i + n).toNat = j := Option.some.inj h
   exact ⟨by rw [seqIndex_neg (by omega) h1, e], by omega, h1, by omega⟩
  ·rw [if_neg h1] at h; cases h
theorem Qiu {α : Type} {xs : List α} {i : Int} {v : α} (h : atI xs i = some v) : ∃ j, seqIndex? i xs.length = some j ∧ xs[j]? = some v ∧ j < xs.length ∧ -(xs.length : Int) ≤ i ∧ i < xs.length := by
 unfold atI at h
 cases e : ixN xs.length i with
 | none => rw [e] at h; cases h
 | some j =>
  rw [e] at h
  obtain ⟨h1, h2, h3, h4⟩ := Qh8 e
  exact ⟨j, h1, h, h2, h3, h4⟩
theorem ZI {α : Type} {xs : List α} {j : Nat} {v : α} (h : xs[j]? = some v) : atI xs (j : Int) = some v := by
 have hj : j < xs.length := (List.getElem?_eq_some_iff.mp h).1
 have e : ixN xs.length (j : Int) = some j := by
  unfold ixN
  rw [if_pos (by omega), if_pos (by omega)]; simp
 unfold atI; rw [e]; exact h
def Qj2 (b : Expr) : Prop := ∀ o i, subscripted b false o i = operate [o, i] (getItem o i)
def IxR (X : Cx) (r : R2) : Prop :=
 ∀ (value slice : Expr) (pins : List (Addr × Obj)) (s : Shared) (σ : St) (H : Hp) (x y : V) (v u : Value) (Q : VK), Inv X pins σ H s → RelV x v → RelV y u → r x y H Q →
  subscripted slice false v u = operate [v, u] (getItem v u) → wpAny (model X.prog X.w) X.A (subscriptTail value slice v u) (EP X pins σ Q) X.xe s
def MtR (X : Cx) (id : String) (r : V → List V → Hp → VK → Prop) : Prop :=
 ∀ (pins : List (Addr × Obj)) (s : Shared) (σ : St) (H : Hp) (x : V) (xs : List V) (v : Value) (us : List Value) (Q : VK), Inv X pins σ H s → RelV x v → Vals xs us → r x xs H Q →
  wpAny (model X.prog X.w) X.A (call (.builtin id) (v :: us)) (EP X pins σ Q) X.xe s
section
variable {X : Cx} {a b : Expr} {ta tb : TE} {pos : Pos}
theorem QX {r : R2} (hr : IxR X r) (ha : PE X a ta) (hb : PE X b tb) (hs : Qj2 b) : PE X (.Subscript a b pos) (tOp r ta tb) := by
 intro pins s σ H Q I h
 exact Subscript_ (binT ha hb I h fun v u s2 x y H2 I2 rx ry q => hr a b pins s2 σ H2 x y v u Q I2 rx ry q (hs _ _))
def rIxL (K : PySem.W.Frag) : R2 := fun x y H Q => ∃ p xs i v, x = .ref p ∧ y = .int i ∧ SqL K H p xs ∧ atI xs i = some v ∧ Q v H
def rIxT (K : PySem.W.Frag) : R2 := fun x y H Q => ∃ p xs i v, x = .ref p ∧ y = .int i ∧ SqT K H p xs ∧ atI xs i = some v ∧ Q v H
theorem QY : IxR X (rIxL X.K) := by
 intro value slice pins s σ H x y v u Q I rx ry h hs
 obtain ⟨p, xs, i, z, rfl, rfl, hq, he, q⟩ := h
 cases rx
 obtain ⟨t, rfl⟩ := ry
 obtain ⟨its, r, pl, hz⟩ := I.list hq
 obtain ⟨j, h1, h2, h3, h4, h5⟩ := Qiu he
 obtain ⟨w, ew, rw'⟩ := r.get h2
 have hl := r.length
 have hn := QgI
 have fin : EP X pins σ Q w s := ⟨z, H, I, rw', q⟩
 by_cases h0 : 0 ≤ i
 ·have hj : i.toNat = j := by
   rw [seqIndex_of h0 h5] at h1
   exact Option.some.inj h1
  exact item_listR pl.isList h0 (by omega) (by rw [hj]; simpa using ew) fin hs
 ·have hj : (i + (its.toArray.size : Int)).toNat = j := by
   rw [seqIndex_neg (by omega) h4] at h1
   rw [List.size_toArray, ← hl]
   exact Option.some.inj h1
  exact subscriptTail_builtinR (x := w) pl.isList.typeIs slot_list_getitem.lookup
   (wpAny_getItem_list_neg (Q := fun r s' => r = w ∧ EP X pins σ Q r s') pl.isList (by omega) (by rw [List.size_toArray] <;> omega) (by omega) (by rw [hj]; simpa using ew) ⟨rfl, fin⟩) hs
theorem Zp : IxR X (rIxT X.K) := by
 intro value slice pins s σ H x y v u Q I rx ry h hs
 obtain ⟨p, xs, i, z, rfl, rfl, hq, he, q⟩ := h
 cases rx
 obtain ⟨t, rfl⟩ := ry
 obtain ⟨its, r, pl, hz⟩ := I.tuple hq
 obtain ⟨j, h1, h2, h3, h4, h5⟩ := Qiu he
 obtain ⟨w, ew, rw'⟩ := r.get h2
 have hl := r.length
 have hn := QgI
 have fin : EP X pins σ Q w s := ⟨z, H, I, rw', q⟩
 exact subscriptTail_builtinR (x := w) pl.typeIs slot_tuple_getitem.lookup
  (getItem_tuple (j := j) (Q := fun r s' => r = w ∧ EP X pins σ Q r s') pl (by omega) (by omega) (by rw [List.size_toArray, ← hl]; exact h1) (by simpa using ew) ⟨rfl, fin⟩) hs
theorem Qg1 (its : List Value) (n j : Nat) (u : Value) : Obj.mapSeq (·.setIfInBounds j u) { cls := .type "list", data := .seq its.toArray n } = { cls := .type "list", data := .seq (its.set j u).toArray n } := by
 simp [Obj.mapSeq]
theorem Inv.lst {pins : List (Addr × Obj)} {σ : St} {H : Hp} {s : Shared} {p : Addr} {xs : List V} (I : Inv X pins σ H s) (h : H p = some (.lst xs)) :
  ∃ (its : List Value) (n : Nat), Vals xs its ∧ s.heap.get? p = some { cls := .type "list", data := .seq its.toArray n } ∧ xs.length ≤ sizeLine := by
 obtain ⟨z, its, n, r, e⟩ := I.hok p _ h
 exact ⟨its, n, r, e, z⟩
theorem Inv.lstUpd {pins : List (Addr × Obj)} {σ : St} {H : Hp} {s : Shared} {p : Addr} {xs ys : List V} {its its' : List Value} {n n' : Nat} {f : Obj → Obj} (I : Inv X pins σ H s) (h : H p = some (.lst xs))
  (ho : s.heap.get? p = some { cls := .type "list", data := .seq its.toArray n }) (hf : f { cls := .type "list", data := .seq its.toArray n } = { cls := .type "list", data := .seq its'.toArray n' }) (r : Vals ys its') (hz : ys.length ≤ sizeLine) (t : Nat) :
  Inv X pins σ (upd H p (.lst ys)) { s with heap := s.heap.update p f, toks := t } := by
 have e : (s.heap.update p f).get? p = some { cls := .type "list", data := .seq its'.toArray n' } := by
  rw [Heap.get?_update_self f ho (by rw [hf] <;> rfl), hf]
 refine I.write (x := p) (e := p) (by rw [h]; trivial) (.inl rfl) (fun b u hb q => (Heap.get?_update_other _ _ (Ne.symm hb)).trans q) ⟨_, e⟩ ?_
 exact ⟨hz, its', n', r, e⟩
def rSetL : V → V → V → Hp → (Hp → Prop) → Prop := fun o i v H Q => ∃ p xs k j, o = .ref p ∧ i = .int k ∧ H p = some (.lst xs) ∧ ixN xs.length k = some j ∧ Q (upd H p (.lst (xs.set j v)))
theorem QbA : PSet X rSetL := by
 intro pins s σ H o i v ov iv u Q I ro ri rv h
 obtain ⟨p, xs, k, j, rfl, rfl, hp, hj, q⟩ := h
 cases ro
 obtain ⟨t, rfl⟩ := ri
 obtain ⟨its, n, r, ho, hz⟩ := I.lst hp
 obtain ⟨h1, h2, h3, h4⟩ := Qh8 hj
 have hl := r.length
 have hn := QgI
 have I' : Inv X pins σ (upd H p (.lst (xs.set j v))) { s with heap := s.heap.update p (Obj.mapSeq (·.setIfInBounds j u)) } :=
  I.lstUpd hp ho (Qg1 its n j u) (r.set rv j) (by rw [List.length_set]; exact hz) s.toks
 by_cases h0 : 0 ≤ k
 ·have hk : k.toNat = j := by
   rw [seqIndex_of h0 h4] at h1
   exact Option.some.inj h1
  exact PySem.W.ki_setAt ho h0 (by omega) (by rw [List.size_toArray, ← hl]; exact h4) (by rw [hk]; exact ⟨_, I', q⟩)
 ·have hk : (k + (its.toArray.size : Int)).toNat = j := by
   rw [seqIndex_neg (by omega) h3] at h1
   rw [List.size_toArray, ← hl]
   exact Option.some.inj h1
  exact PySem.W.ki_setBack ho (by omega) (by rw [List.size_toArray, ← hl]; exact h3) (by omega) (by rw [hk]; exact ⟨_, I', q⟩)
theorem Qfi (lo hi : Option Int) (n : Nat) : (sliceBounds lo hi none n).1 = ((HT.sIx n 0 lo : Nat) : Int) ∧ (sliceBounds lo hi none n).2.1 = ((HT.sIx n n hi : Nat) : Int) ∧ (sliceBounds lo hi none n).2.2 = 1 := by
 refine ⟨?_, ?_, rfl⟩
 ·cases lo with
  | none => simp [sliceBounds, HT.sIx]
  | some i =>
   simp only [sliceBounds, HT.sIx, Option.getD_none, show (1 : Int) > 0 by decide, if_true]
   by_cases h : i < 0
   ·simp only [h, if_true] <;> omega
   ·simp only [h, if_false] <;> omega
 ·cases hi with
  | none => simp [sliceBounds, HT.sIx]
  | some i =>
   simp only [sliceBounds, HT.sIx, Option.getD_none, show (1 : Int) > 0 by decide, if_true]
   by_cases h : i < 0
   ·simp only [h, if_true] <;> omega
   ·simp only [h, if_false] <;> omega
theorem QeE (its : List Value) (lo hi : Option Int) : slicePick its.toArray lo hi none = ((its.drop (HT.sIx its.length 0 lo)).take (HT.sIx its.length its.length hi - HT.sIx its.length 0 lo)).toArray := by
 obtain ⟨h1, h2, h3⟩ := Qfi lo hi its.toArray.size
 unfold slicePick
 rw [h1, h2, h3]
 simp only [sliceRange_one, pick_run, List.size_toArray] <;> rfl
def rSlL (K : PySem.W.Frag) : V → Option Int → Option Int → Hp → VK → Prop := fun x lo hi H Q => ∃ a xs, x = .ref a ∧ SqL K H a xs ∧ ∀ p, H p = none → Q (.ref p) (upd H p (.lst (cutV xs lo hi)))
theorem sl_list : SlR X (rSlL X.K) := by
 intro pins s σ H x v vl vu lo hi sl Q I rx hs pl pu h
 obtain ⟨a, xs, rfl, hx, q⟩ := h
 cases rx
 obtain ⟨its, r, ht, hz⟩ := I.list hx
 have hlen := r.length
 refine ⟨"list", _, slot_list_getitem.lookup, ht.isList.typeIs, ?_⟩
 refine wpAny_getItem_list_slice ht.isList hs pl pu .none (by simp) ?_ (by rw [List.size_toArray] <;> omega)
 rw [QeE, ← hlen]
 refine ⟨.ref s.heap.objs.size, _, I.laid (t' := s.toks) (o := .lst (cutV xs lo hi)) (fun b ob q => Heap.get?_push_of_some _ q) (Nat.le_refl _) ?_, rfl, q _ (I.hok.fresh (Nat.le_refl _))⟩
 exact ⟨Nat.le_trans (Qgd xs lo hi) hz, _, 0, (r.drop (HT.sIx xs.length 0 lo)).take (HT.sIx xs.length xs.length hi - HT.sIx xs.length 0 lo), Heap.get?_push_size _ rfl⟩
def Qbt : V → Bool
 | .non => true
 | .bl _ => true
 | .int _ => true
 | .str _ => true
 | _ => false
def eqV : V → V → Bool
 | .non, .non => true
 | .bl a, .bl b => a == b
 | .bl a, .int b => (if a then 1 else 0) == b
 | .int a, .bl b => a == (if b then 1 else 0)
 | .int a, .int b => a == b
 | .str a, .str b => a == b
 | _, _ => false
theorem Qij {A : Around} {s : Shared} {y x : V} {u v : Value} (ry : RelV y u) (rx : RelV x v) (fy : Qbt y = true) (fx : Qbt x = true) : SeqAt.EqAt A s u v (eqV y x) := by
 cases y with
 | non =>
  cases ry
  cases x with
  | non => cases rx; exact SeqAt.EqAt.same _
  | bl b => cases rx; exact SeqAt.EqAt.none_bool b
  | int b => obtain ⟨t, rfl⟩ := rx; exact SeqAt.EqAt.none_int b t
  | str b => obtain ⟨t, rfl⟩ := rx; exact SeqAt.EqAt.none_str b t
  | _ => exact absurd (show false = true from fx) Bool.false_ne_true
 | bl a =>
  cases ry
  cases x with
  | non => cases rx; exact SeqAt.EqAt.bool_none a
  | bl b => cases rx; exact SeqAt.EqAt.bool_bool a b
  | int b => obtain ⟨t, rfl⟩ := rx; exact SeqAt.EqAt.bool_int a b t
  | str b => obtain ⟨t, rfl⟩ := rx; exact SeqAt.EqAt.bool_str a b t
  | _ => exact absurd (show false = true from fx) Bool.false_ne_true
 | int a =>
  obtain ⟨t', rfl⟩ := ry
  cases x with
  | non => cases rx; exact SeqAt.EqAt.int_none a t'
  | bl b => cases rx; exact SeqAt.EqAt.int_bool a t' b
  | int b => obtain ⟨t, rfl⟩ := rx; exact SeqAt.EqAt.int_int a t' b t
  | str b => obtain ⟨t, rfl⟩ := rx; exact SeqAt.EqAt.int_str a t' b t
  | _ => exact absurd (show false = true from fx) Bool.false_ne_true
 | str a =>
  obtain ⟨t', rfl⟩ := ry
  cases x with
  | non => cases rx; exact SeqAt.EqAt.str_none a t'
  | bl b => cases rx; exact SeqAt.EqAt.str_bool a t' b
  | int b => obtain ⟨t, rfl⟩ := rx; exact SeqAt.EqAt.str_int a t' b t
  | str b => obtain ⟨t, rfl⟩ := rx; exact SeqAt.EqAt.str_str a t' b t
  | _ => exact absurd (show false = true from fx) Bool.false_ne_true
 | _ => exact absurd (show false = true from fy) Bool.false_ne_true
def eqU (x : V) (u : Value) : Bool := match u with
 | .none => eqV .non x
 | .bool b => eqV (.bl b) x
 | .int i _ => eqV (.int i) x
 | .str z _ => eqV (.str z) x
 | _ => false
theorem Qji {x y : V} {u : Value} (r : RelV y u) (f : Qbt y = true) : eqU x u = eqV y x := by
 cases y with
 | non => cases r; rfl
 | bl b => cases r; rfl
 | int i => obtain ⟨t, rfl⟩ := r; rfl
 | str z => obtain ⟨t, rfl⟩ := r; rfl
 | _ => exact absurd (show false = true from f) Bool.false_ne_true
theorem QdT {x : V} : ∀ {xs : List V} {us : List Value}, Vals xs us → xs.all Qbt = true → us.any (eqU x) = xs.any fun y => eqV y x
 | _, _, .nil, _ => rfl
 | y :: xs, u :: us, .cons r t, f => by
  rw [List.all_cons, Bool.and_eq_true] at f
  rw [List.any_cons, List.any_cons, Qji r f.1, QdT t f.2]
theorem Qcj {A : Around} {s : Shared} {x : V} {v : Value} (rx : RelV x v) (fx : Qbt x = true) : ∀ {xs : List V} {us : List Value}, Vals xs us → xs.all Qbt = true → ∀ u ∈ us, SeqAt.EqAt A s u v (eqU x u)
 | _, _, .nil, _ => fun u hu => by cases hu
 | y :: xs, u :: us, .cons r t, f => fun u' hu => by
  rw [List.all_cons, Bool.and_eq_true] at f
  rcases List.mem_cons.mp hu with rfl | hu
  ·rw [Qji r f.1]; exact Qij r rx f.1 fx
  ·exact Qcj rx fx t f.2 u' hu
def inV (x : V) (xs : List V) : Bool := xs.any fun y => eqV y x
def rIn (K : PySem.W.Frag) (neg : Bool) : R2 := fun x y H Q => ∃ p xs, y = .ref p ∧ (SqL K H p xs ∨ SqT K H p xs) ∧ Qbt x = true ∧ xs.all Qbt = true ∧ Q (.bl (if neg then !inV x xs else inV x xs)) H
theorem QhY : OpR X (compareOp .In) (rIn X.K false) := by
 intro pins s σ H x y v u Q I rx ry h
 obtain ⟨p, xs, rfl, hq, fx, fs, q⟩ := h
 cases ry
 rcases hq with hq | hq
 ·obtain ⟨its, r, pl, hz⟩ := I.list hq
  refine SeqAt.in_listAt (eqU x) pl.isList (fun w hw => Qcj rx fx r fs w (by simpa using hw)) ⟨.bl _, H, I, rfl, ?_⟩
  rw [show its.toArray.any (eqU x) = its.any (eqU x) by simp, QdT r fs]
  exact q
 ·obtain ⟨its, r, pl, hz⟩ := I.tuple hq
  refine SeqAt.in_tupleAt (eqU x) pl (fun w hw => Qcj rx fx r fs w (by simpa using hw)) ⟨.bl _, H, I, rfl, ?_⟩
  rw [show its.toArray.any (eqU x) = its.any (eqU x) by simp, QdT r fs]
  exact q
theorem QcG : OpR X (compareOp .NotIn) (rIn X.K true) := by
 intro pins s σ H x y v u Q I rx ry h
 obtain ⟨p, xs, rfl, hq, fx, fs, q⟩ := h
 cases ry
 rcases hq with hq | hq
 ·obtain ⟨its, r, pl, hz⟩ := I.list hq
  refine SeqAt.notIn_listAt (eqU x) pl.isList (fun w hw => Qcj rx fx r fs w (by simpa using hw)) ⟨.bl _, H, I, rfl, ?_⟩
  rw [show its.toArray.any (eqU x) = its.any (eqU x) by simp, QdT r fs]
  exact q
 ·obtain ⟨its, r, pl, hz⟩ := I.tuple hq
  refine SeqAt.notIn_tupleAt (eqU x) pl (fun w hw => Qcj rx fx r fs w (by simpa using hw)) ⟨.bl _, H, I, rfl, ?_⟩
  rw [show its.toArray.any (eqU x) = its.any (eqU x) by simp, QdT r fs]
  exact q
theorem Qs : Qc4 X (.builtin "len") (fun xs H Q => ∃ p ys, xs = [.ref p] ∧ (SqL X.K H p ys ∨ SqT X.K H p ys) ∧ Q (.int ys.length) H) := by
 intro pins s σ H xs us Q I r h
 obtain ⟨p, ys, rfl, hq, q⟩ := h
 obtain ⟨u, rfl, rx⟩ := Qey r
 cases rx
 have hn := QgI
 rcases hq with hq | hq
 ·obtain ⟨its, r', pl, hz⟩ := I.list hq
  have hlen := r'.length
  exact Calls.call_len_list pl.isList (by simp only [List.size_toArray] <;> omega) ⟨.int ys.length, H, I.tok _, ⟨s.toks + 1, by rw [List.size_toArray, hlen]⟩, q⟩
 ·obtain ⟨its, r', pl, hz⟩ := I.tuple hq
  have hlen := r'.length
  exact len_tuple pl (by simp only [List.size_toArray] <;> omega) ⟨.int ys.length, H, I.tok _, ⟨s.toks + 1, by rw [List.size_toArray, hlen]⟩, q⟩
theorem QcM : Qc4 X (.type "list") (fun xs H Q => ∃ p ys, xs = [.ref p] ∧ (SqL X.K H p ys ∨ SqT X.K H p ys) ∧ ∀ l, H l = none → Q (.ref l) (upd H l (.lst ys))) := by
 intro pins s σ H xs us Q I r h
 obtain ⟨p, ys, rfl, hq, q⟩ := h
 obtain ⟨u, rfl, rx⟩ := Qey r
 cases rx
 have fin : ∀ (its : List Value), Vals ys its → ys.length ≤ sizeLine → ∀ (h' : Heap) (c' : Nat), (∀ b o', s.heap.get? b = some o' → h'.get? b = some o') →
   h'.get? s.heap.objs.size = some { cls := .type "list", dict := none, data := .seq its.toArray c', slots := #[] } → EP X pins σ Q (.ref s.heap.objs.size) { s with heap := h' } := fun its r' hz h' c' kp e =>
  ⟨.ref s.heap.objs.size, _, I.laid (t' := s.toks) kp (Nat.le_refl _) (show ObjOk X.prog X.w _ h' _ (.lst ys) from ⟨hz, its, c', r', e⟩), rfl, q _ (I.hok.fresh (Nat.le_refl _))⟩
 rcases hq with hq | hq
 ·obtain ⟨its, r', pl, hz⟩ := I.list hq
  have hlen := r'.length
  obtain ⟨o, ho, hc, n, hd⟩ := pl.isList
  exact call_list_seq p (.inl rfl) ho hc hd (fun h' c' kp e => fin its r' hz h' c' kp e) (by simp only [List.size_toArray] <;> omega)
 ·obtain ⟨its, r', pl, hz⟩ := I.tuple hq
  have hlen := r'.length
  obtain ⟨o, ho, hc, n, hd⟩ := pl
  exact call_list_seq p (.inr rfl) ho hc hd (fun h' c' kp e => fin its r' hz h' c' kp e) (by simp only [List.size_toArray] <;> omega)
theorem Qe5 : Qc4 X (.type "tuple") (fun xs H Q => ∃ p ys, xs = [.ref p] ∧ ((SqL X.K H p ys ∧ ∀ l, H l = none → Q (.ref l) (upd H l (.tup ys))) ∨ (SqT X.K H p ys ∧ Q (.ref p) H))) := by
 intro pins s σ H xs us Q I r h
 obtain ⟨p, ys, rfl, h⟩ := h
 obtain ⟨u, rfl, rx⟩ := Qey r
 cases rx
 rcases h with ⟨hq, q⟩ | ⟨hq, q⟩
 ·obtain ⟨its, r', pl, hz⟩ := I.list hq
  have hlen := r'.length
  refine call_tuple_list pl.isList (fun h' kp => ?_) (by simp only [List.size_toArray] <;> omega)
  have I1 : Inv X pins σ H { s with heap := h' } := I.kept (t' := s.toks) kp
  have I2 : Inv X pins σ (upd H h'.objs.size (.tup ys)) { s with heap := h'.push { cls := .type "tuple", data := .seq its.toArray } } :=
   I1.laid (t' := s.toks) (fun b o e => Heap.get?_push_of_some _ e) (Nat.le_refl _) (show ObjOk X.prog X.w _ _ _ (.tup ys) from ⟨hz, its, r', IsTup.new _ _⟩)
  exact ⟨.ref h'.objs.size, _, I2, rfl, q _ (I1.hok.fresh (Nat.le_refl _))⟩
 ·obtain ⟨its, r', pl, hz⟩ := I.tuple hq
  exact call_tuple_same pl ⟨.ref p, H, I, rfl, q⟩
def tyV (K : PySem.W.Frag) (T : String) (x : V) (H : Hp) : Prop := match x with
 | .str _ => T = "str"
 | .int _ => T = "int"
 | .ref p => (T = "list" ∧ ∃ xs, SqL K H p xs) ∨ (T = "tuple" ∧ ∃ o, K.lookup p = some o ∧ o.cls = .type "tuple" ∧ o.dict = none) ∨
   (T = "dict" ∧ ((∃ kvs, H p = some (.dK kvs)) ∨ ∃ kvs, H p = some (.dT kvs))) ∨ (T = "set" ∧ ∃ S n, H p = some (.set S n))
 | _ => False
theorem tyV_is {pins : List (Addr × Obj)} {σ : St} {H : Hp} {s : Shared} {T : String} {x : V} {v : Value} (I : Inv X pins σ H s) (r : RelV x v) (ty : tyV X.K T x H) :
  s.TypeIs v T ∧ ∀ a, v = .ref a → ∃ ob, s.heap.get? a = some ob ∧ ob.dict = none := by
 cases x with
 | str z =>
  obtain ⟨t, rfl⟩ := r
  cases (show T = "str" from ty)
  exact ⟨typeIs_str s z t, fun _ e => nomatch e⟩
 | int i =>
  obtain ⟨t, rfl⟩ := r
  cases (show T = "int" from ty)
  exact ⟨typeIs_int s i t, fun _ e => nomatch e⟩
 | ref p =>
  cases r
  rcases ty with ⟨rfl, xs, hq⟩ | ⟨rfl, o, hk, hc, hd⟩ | ⟨rfl, hk⟩ | ⟨rfl, S, n, hk⟩
  ·obtain ⟨its, _, pl, _⟩ := I.list hq
   refine ⟨pl.isList.typeIs, fun a e => ?_⟩
   cases e
   obtain ⟨o, n, e, c, hd, _⟩ := pl
   exact ⟨o, e, hd⟩
  ·refine ⟨⟨o, I.kIn p o hk, hc⟩, fun a e => ?_⟩
   cases e
   exact ⟨o, I.kIn _ o hk, hd⟩
  ·have z : ∃ o, s.heap.get? p = some o ∧ o.ExactDict := by
    rcases hk with ⟨kvs, hk⟩ | ⟨kvs, hk⟩
    ·obtain ⟨_, _, _, _, o, _, _, e, ex, _⟩ := I.hok p _ hk
     exact ⟨o, e, ex⟩
    ·obtain ⟨_, _, _, _, o, _, _, e, ex, _⟩ := I.hok p _ hk
     exact ⟨o, e, ex⟩
   obtain ⟨o, e, ex⟩ := z
   refine ⟨⟨o, e, ex.1⟩, fun a e2 => ?_⟩
   cases e2
   exact ⟨o, e, ex.2.1⟩
  ·obtain ⟨o, _, _, _, e, ex, _⟩ := I.hok p _ hk
   refine ⟨⟨o, e, ex.1⟩, fun a e2 => ?_⟩
   cases e2
   exact ⟨o, e, ex.2.1⟩
 | _ => exact False.elim ty
def tBM (K : PySem.W.Frag) (T : String) (r : V → List V → Hp → VK → Prop) (to : TE) (t : TA) : TE := fun σ H Q => to σ H fun x H1 => tyV K T x H1 ∧ t σ H1 fun xs H2 => r x xs H2 Q
variable {o e : Expr} {es : List Expr} {to : TE} {t : TA} {name : Str} {apos cpos : Pos} {T id : String} {r : V → List V → Hp → VK → Prop}
theorem Qfs (pa : PlainAttrs T) (slot : Slot T name id) (hty : typeOf (.builtin id) = pure (.type "method_descriptor")) (hm : MtR X id r) (ho : PE X o to) (ha : PA X (e :: es) t)
  (hbase : attributeBase o name X.env (eval o X.env) = eval o X.env := by rfl)
  (hfew : ((backTo cpos (starEach (e :: es) X.env)).all (fun x => !x.1) && (backToKw cpos (keywordEach [] X.env)).all (fun x => x.1.isSome)
   && decide ((e :: es).length + ([] : List Keyword).length + (if ([] : List Keyword).isEmpty then 0 else 1) < 30)) = true := by rfl)
  (hline : (apos.endLine == cpos.line) = true := by rfl) (hs : starEach (e :: es) X.env = (false, eval e X.env) :: starEach es X.env := by rfl) (hplain : (backTo cpos (starEach es X.env)).any (·.1) = false := by rfl) :
  PE X (.Call (.Attribute o name apos) (e :: es) [] cpos) (tBM X.K T r to t) := by
 intro pins s σ H Q I h
 refine wpAny_Call_method_late hbase hfew hline rfl (thn (ho pins s σ H _ I h) fun v s1 ⟨x, H1, I1, r1, ty, q1⟩ => ?_)
 obtain ⟨h1, h2⟩ := tyV_is I1 r1 ty
 refine ⟨T, id, pa, slot, hty, h1, h2, ?_⟩
 have hA := ha cpos pins s1 σ H1 _ I1 q1
 rw [hs] at hA ⊢
 refine Calls.callWith_builtin (by show (false || (backTo cpos (starEach es X.env)).any (·.1)) = false; rw [hplain] <;> rfl) (Calls.evalArgs_plain ?_)
 exact thn hA fun us s2 ⟨vs, H2, I2, r2, q2⟩ => hm pins s2 σ H2 x vs v us Q I2 r1 r2 q2
/- xs.append(e), list.index on a module's tuple .. are MtR facts of 06m -/
end
end L2
namespace L2
open PySem PySem.Spec PyProof.Rows
def MtM (X : Cx) (id : String) (r : V → List V → Hp → VK → Prop) : Prop :=
 ∀ (pins : List (Addr × Obj)) (s : Shared) (σ : St) (H : Hp) (x : V) (xs : List V) (v : Value) (us : List Value) (Q : VK), Inv X pins σ H s → RelV x v → Vals xs us → r x xs H Q →
  wpAny (model X.prog X.w) X.A (call (.builtin id) (v :: us)) (EP X pins σ Q) X.xe s
theorem Vals.one : ∀ {x : V} {us : List Value}, Vals [x] us → ∃ u, us = [u] ∧ RelV x u
 | _, _, .cons r .nil => ⟨_, rfl, r⟩
theorem Vals.eraseIdx : ∀ {xs : List V} {us : List Value} (i : Nat), Vals xs us → Vals (xs.eraseIdx i) (us.eraseIdx i)
 | _, _, _, .nil => .nil
 | _, _, 0, .cons _ t => t
 | _, _, i + 1, .cons r t => .cons r (Vals.eraseIdx i t)
theorem Vals.rep {xs : List V} {us : List Value} (h : Vals xs us) : ∀ k : Nat, Vals (List.replicate k xs).flatten (List.replicate k us).flatten
 | 0 => .nil
 | k + 1 => by
  rw [List.replicate_succ, List.replicate_succ, List.flatten_cons, List.flatten_cons]
  exact Vals.append h (Vals.rep h k)
theorem QfE (its : List Value) : ∀ (k : Nat) (acc : List Value),
  List.foldl (fun x1 x2 => x1 ++ x2) acc.toArray (List.replicate k its.toArray) = (acc ++ (List.replicate k its).flatten).toArray
 | 0, acc => by simp
 | k + 1, acc => by
  have e : acc.toArray ++ its.toArray = (acc ++ its).toArray := by simp
  have e2 : (acc ++ its) ++ (List.replicate k its).flatten = acc ++ (List.replicate (k + 1) its).flatten := by
   rw [List.replicate_succ, List.flatten_cons, List.append_assoc]
  rw [← e2, ← QfE its k (acc ++ its), ← e, List.replicate_succ, List.foldl_cons]
section
variable {X : Cx} {pins : List (Addr × Obj)} {σ : St} {H : Hp} {s : Shared} {l b : Addr} {xs ys zs : List V}
theorem Inv.lset {its its' : List Value} {n : Nat} {f : Array Value → Array Value} {t' : Nat} (I : Inv X pins σ H s) (hH : H l = some (.lst xs))
  (e : s.heap.get? l = some { cls := .type "list", data := .seq its.toArray n }) (hf : f its.toArray = its'.toArray) (hv : Vals ys its') (hz : ys.length ≤ sizeLine) :
  Inv X pins σ (upd H l (.lst ys)) { s with heap := s.heap.update l (Obj.mapSeq f), toks := t' } := by
 have q := PySem.IsL.update e f
 rw [hf] at q
 refine I.write (x := l) (e := l) (by rw [hH]; exact trivial) (.inl rfl) (fun b' u hb hu => (Heap.get?_update_other s.heap (Obj.mapSeq f) (Ne.symm hb)).trans hu) ⟨_, q⟩ ?_
 exact ⟨hz, its', _, hv, q⟩
theorem Inv.lnew {its : List Value} {t' : Nat} (I : Inv X pins σ H s) (hv : Vals ys its) (hz : ys.length ≤ sizeLine) :
  Inv X pins σ (upd H s.heap.objs.size (.lst ys)) { s with heap := s.heap.push { cls := .type "list", data := .seq its.toArray }, toks := t' } :=
 I.laid (fun _ _ q => Heap.get?_push_of_some _ q) (Nat.le_refl _) ⟨hz, its, 0, hv, Heap.get?_push_size _ rfl⟩
theorem Inv.fresh (I : Inv X pins σ H s) : H s.heap.objs.size = none := I.hok.fresh (Nat.le_refl _)
theorem Inv.lstM (I : Inv X pins σ H s) (hH : H l = some (.lst xs)) : xs.length ≤ sizeLine ∧ ∃ (its : List Value) (n : Nat), Vals xs its ∧ xs.length = its.length ∧ s.heap.get? l = some { cls := .type "list", data := .seq its.toArray n } := by
 obtain ⟨z, its, n, r, e⟩ := I.hok l _ hH
 exact ⟨z, its, n, r, r.length, e⟩
theorem QiL {n : Nat} (h : n ≤ sizeLine) : Builtin.List.listTooLong n = false := by
 unfold Builtin.List.listTooLong
 exact decide_eq_false (by omega)
end
section
variable {X : Cx}
def Qjz : V → List V → Hp → VK → Prop := fun x vs H Q => ∃ l xs y, x = .ref l ∧ vs = [y] ∧ H l = some (.lst xs) ∧ xs.length < sizeLine ∧ Q .non (upd H l (.lst (xs ++ [y])))
theorem QaH : MtM X "list.append" Qjz := by
 intro pins s σ H x vs v us Q I rx rv h
 obtain ⟨l, xs, y, rfl, rfl, hH, hz, q⟩ := h
 cases rx
 obtain ⟨u, rfl, ru⟩ := rv.one
 obtain ⟨z, its, n, r, hl, e⟩ := I.lstM hH
 refine call_meets F.slot_list_append ⟨_, e, rfl⟩ F.entry_list_append (F.args_list_append_2 _ _) (PySem.list_append l its.toArray n u (by rw [List.size_toArray]; omega)) ⟨e, ?_⟩
 refine ⟨.non, _, I.lset (its' := its ++ [u]) hH e (by simp) (r.append (.cons ru .nil)) ?_, rfl, q⟩
 rw [List.length_append, List.length_singleton]
 omega
def rRep : R2 := fun x y H Q => ∃ l k xs, x = .ref l ∧ y = .int k ∧ H l = some (.lst xs) ∧ -(2 ^ 63) ≤ k ∧ k < 2 ^ 63 ∧ xs.length * k.toNat ≤ sizeLine ∧
 ∀ p, H p = none → Q (.ref p) (upd H p (.lst (List.replicate k.toNat xs).flatten))
theorem QjL {α : Type} (xs : List α) (k : Nat) : (List.replicate k xs).flatten.length = k * xs.length := by
 induction k with
 | zero => simp
 | succ k ih => rw [List.replicate_succ, List.flatten_cons, List.length_append, ih, Nat.succ_mul, Nat.add_comm]
theorem Qjd : OpR X (binaryOp .Mult) rRep := by
 intro pins s σ H x y v u Q I rx ry h
 obtain ⟨l, k, xs, rfl, rfl, hH, h1, h2, hz, q⟩ := h
 cases rx
 obtain ⟨t, rfl⟩ := ry
 obtain ⟨z, its, n, r, hl, e⟩ := I.lstM hH
 have hlen : its.toArray.size * k.toNat ≤ sizeLine := by rw [List.size_toArray, ← hl]; exact hz
 have hcap : ¬ its.toArray.size * k.toNat > (2 ^ 63 - 1) / 8 := by
  have : (sizeLine : Nat) ≤ (2 ^ 63 - 1) / 8 := by decide
  omega
 have hfit : ¬ (!Builtin.List.listFitsIndex k) = true := by
  rw [fitsIndex_both h1 h2]
  exact Bool.false_ne_true
 have hlong : ¬ Builtin.List.listTooLong (its.toArray.size * k.toNat) = true := by
  rw [QiL hlen]
  exact Bool.false_ne_true
 have hnew : List.foldl (fun x1 x2 => x1 ++ x2) #[] (List.replicate (if its.toArray.isEmpty = true then 0 else k.toNat) its.toArray) = (List.replicate k.toNat its).flatten.toArray := by
  have f0 : ∀ m : Nat, List.foldl (fun x1 x2 => x1 ++ x2) #[] (List.replicate m its.toArray) = (List.replicate m its).flatten.toArray := fun m => by
   have := QfE its m []
   rw [List.nil_append] at this
   exact this
  rw [f0]
  cases its with
  | nil => simp
  | cons a r' => rw [if_neg (by simp)]
 refine wpAny_binaryOp_repeat_ref (T := "list") (U := "int") (by decide) ⟨_, e, rfl⟩ (fun s' => typeIs_int s' k t) noFill_list_mul F.fills_int_mul F.slot_int_rmul repeat_list F.slot_int_index.lookup
  (call_meets F.slot_int_rmul (typeIs_int s k t) F.entry_int_rmul (F.args_int_rmul_2 _ _) (int___rmul___int_list k t l its.toArray n)
   ⟨e, rfl, ⟨_, e, rfl⟩, call_meets F.slot_list_mul ⟨_, e, rfl⟩ F.entry_list_mul (F.args_list_mul_2 _ _) (AutoListH.list___mul___list_int_3 l its.toArray n k t hfit hcap hlong) ⟨e, ?_⟩⟩)
 rw [hnew]
 exact ⟨.ref _, _, I.lnew (t' := s.toks) (r.rep k.toNat) (by rw [QjL, Nat.mul_comm]; exact hz), rfl, q _ I.fresh⟩
end
section
variable {prog : Program} {w : World} {A : Around} {E : Value → Shared → Prop} {s : Shared}
end
section
variable {X : Cx}
end
end L2
namespace L2
open PySem PySem.Spec PyProof.Rows
section
variable {κ : Type} [DecidableEq κ]
def QbP (kvs : List (κ × V)) (k : κ) : Option V := (kvs.find? fun kv => decide (kv.1 = k)).map (·.2)
def QbZ (kvs : List (κ × V)) (k : κ) (v : V) : List (κ × V) :=
 if (kvs.any fun kv => decide (kv.1 = k)) = true then kvs.map (fun kv => if kv.1 = k then (kv.1, v) else kv) else kvs ++ [(k, v)]
def dropK (kvs : List (κ × V)) (k : κ) : List (κ × V) := kvs.filter fun kv => decide (kv.1 ≠ k)
theorem Qbv {p : κ × V} {r : List (κ × V)} {k : κ} (e : p.1 = k) : QbP (p :: r) k = some p.2 := by simp [QbP, List.find?_cons, e]
theorem Qbx {p : κ × V} {r : List (κ × V)} {k : κ} (e : ¬ p.1 = k) : QbP (p :: r) k = QbP r k := by simp [QbP, List.find?_cons, e]
theorem Qby (k : κ) : ∀ kvs : List (κ × V), (kvs.any fun kv => decide (kv.1 = k)) = (QbP kvs k).isSome
 | [] => rfl
 | p :: r => by
  rw [List.any_cons]
  by_cases e : p.1 = k
  ·simp only [Qbv e, decide_eq_true e, Bool.true_or, Option.isSome_some]
  ·rw [Qbx e, decide_eq_false e, Bool.false_or]; exact Qby k r
theorem Qb2 (kvs : List (κ × V)) (k : κ) (v : V) : (QbZ kvs k v).length ≤ kvs.length + 1 := by
 unfold QbZ
 split
 ·rw [List.length_map]; omega
 ·rw [List.length_append, List.length_cons, List.length_nil]; omega
theorem QbD {kvs : List (κ × V)} {k : κ} (v : V) (h : QbP kvs k = none) : QbZ kvs k v = kvs ++ [(k, v)] := by
 unfold QbZ
 rw [Qby, h]
 exact if_neg (by decide)
theorem RelO.isSome_eq {o : Option V} {u : Option Value} (r : RelO o u) : o.isSome = u.isSome := by
 cases o with
 | none => cases u with
  | none => rfl
  | some _ => exact (show False from r).elim
 | some _ => cases u with
  | none => exact (show False from r).elim
  | some _ => rfl
theorem RelO.getD {o : Option V} {u : Option Value} {d : V} {d' : Value} (r : RelO o u) (rd : RelV d d') : RelV (o.getD d) (u.getD d') := by
 cases o with
 | none => cases u with
  | none => exact rd
  | some _ => exact (show False from r).elim
 | some _ => cases u with
  | none => exact (show False from r).elim
  | some _ => exact r
theorem KV.val {kvs : List (κ × V)} {vs : List (κ × Value)} (r : KV kvs vs) (k : κ) : RelO (QbP kvs k) (valueAt vs k) := by
 unfold KV at r
 induction r with
 | nil => exact True.intro
 | @cons p q ps qs h t ih =>
  obtain ⟨h1, h2⟩ := h
  by_cases e : p.1 = k
  ·have e' : q.1 = k := h1.symm.trans e
   have b : valueAt (q :: qs) k = some q.2 := by simp [valueAt, List.find?_cons, e']
   rw [Qbv e, b]; exact h2
  ·have e' : ¬ q.1 = k := fun z => e (h1.trans z)
   have b : valueAt (q :: qs) k = valueAt qs k := by simp [valueAt, List.find?_cons, e']
   rw [Qbx e, b]; exact ih
theorem KV.any {kvs : List (κ × V)} {vs : List (κ × Value)} (r : KV kvs vs) (k : κ) : (kvs.any fun kv => decide (kv.1 = k)) = vs.any fun kv => decide (kv.1 = k) := by
 unfold KV at r
 induction r with
 | nil => rfl
 | cons h t ih => rw [List.any_cons, List.any_cons, ih, h.1]
theorem KV.repl {kvs : List (κ × V)} {vs : List (κ × Value)} (r : KV kvs vs) (k : κ) {y : V} {u : Value} (ry : RelV y u) :
  KV (kvs.map fun kv => if kv.1 = k then (kv.1, y) else kv) (vs.map fun kv => if kv.1 = k then (kv.1, u) else kv) := by
 unfold KV at r ⊢
 induction r with
 | nil => exact .nil
 | @cons p q ps qs h t ih =>
  rw [List.map_cons, List.map_cons]
  refine .cons ?_ ih
  obtain ⟨h1, h2⟩ := h
  by_cases e : p.1 = k
  ·rw [if_pos e, if_pos (h1.symm.trans e)]; exact ⟨h1, ry⟩
  ·rw [if_neg e, if_neg (fun z => e (h1.trans z))]; exact ⟨h1, h2⟩
theorem KV.put {kvs : List (κ × V)} {vs : List (κ × Value)} (r : KV kvs vs) (k : κ) {y : V} {u : Value} (ry : RelV y u) : KV (QbZ kvs k y) (stored vs k u) := by
 unfold QbZ stored
 rw [r.any k]
 by_cases e : (vs.any fun kv => decide (kv.1 = k)) = true
 ·rw [if_pos e, if_pos e]; exact r.repl k ry
 ·rw [if_neg e, if_neg e]; exact Paired.snoc r ⟨rfl, ry⟩
theorem KV.drop {kvs : List (κ × V)} {vs : List (κ × Value)} (r : KV kvs vs) (k : κ) : KV (dropK kvs k) (without vs k) := by
 unfold KV at r ⊢
 unfold dropK without
 induction r with
 | nil => exact .nil
 | @cons p q ps qs h t ih =>
  obtain ⟨h1, h2⟩ := h
  rw [List.filter_cons, List.filter_cons]
  by_cases e : p.1 = k
  ·have a : ¬ decide (p.1 ≠ k) = true := by simp [e]
   have b : ¬ decide (q.1 ≠ k) = true := by simp [h1.symm.trans e]
   rw [if_neg a, if_neg b]; exact ih
  ·have e' : ¬ q.1 = k := fun z => e (h1.trans z)
   have a : decide (p.1 ≠ k) = true := by simp [e]
   have b : decide (q.1 ≠ k) = true := by simp [e']
   rw [if_pos a, if_pos b]; exact .cons ⟨h1, h2⟩ ih
theorem KV.keys {kvs : List (κ × V)} {vs : List (κ × Value)} (r : KV kvs vs) : kvs.map (·.1) = vs.map (·.1) := by
 unfold KV at r
 induction r with
 | nil => rfl
 | cons h t ih => rw [List.map_cons, List.map_cons, ih, h.1]
theorem KV.length {kvs : List (κ × V)} {vs : List (κ × Value)} (r : KV kvs vs) : kvs.length = vs.length := Paired.length r
end
theorem Qga {P : Program} {w : World} {k : Key} {u : Value} (r : RelV (kV k) u) : (Zf P w).is k u = true := by
 cases k with
 | inl i => obtain ⟨t, e⟩ := (show ∃ t, u = Value.int i t from r); subst e; exact Qf8 P w i t
 | inr x => obtain ⟨t, e⟩ := (show ∃ t, u = Value.str x t from r); subst e; exact Qf7 P w x t
theorem QfB {P : Program} {w : World} : ∀ {ks : List Key} {us : List Value}, Vals (ks.map kV) us → ItemsAre (Zf P w) ks us
 | [], _, r => by rw [List.map_nil] at r; cases r; exact .nil
 | k :: ks, _, r => by
  rw [List.map_cons] at r
  cases r with
  | cons h t => exact .cons (Qga h) (QfB t)
abbrev KT (H : Hp) : List (List Key × V) → List (List Key × Addr × Value) → Prop := Paired fun p q => p.1 = q.1 ∧ H q.2.1 = some (.tup (p.1.map kV)) ∧ RelV p.2 q.2.2
theorem KT.val {H : Hp} {kvs : List (List Key × V)} {xs : List (List Key × Addr × Value)} (r : KT H kvs xs) (k : List Key) : RelO (QbP kvs k) ((atKey xs k).map (·.2)) := by
 induction r with
 | nil => exact True.intro
 | @cons p q ps qs h t ih =>
  obtain ⟨h1, _, h2⟩ := h
  by_cases e : p.1 = k
  ·have e' : q.1 = k := h1.symm.trans e
   have b : atKey (q :: qs) k = some q.2 := by simp [atKey, List.find?_cons, e']
   rw [Qbv e, b]; exact h2
  ·have e' : ¬ q.1 = k := fun z => e (h1.trans z)
   have b : atKey (q :: qs) k = atKey qs k := by simp [atKey, List.find?_cons, e']
   rw [Qbx e, b]; exact ih
theorem KT.repl {H : Hp} {kvs : List (List Key × V)} {xs : List (List Key × Addr × Value)} (r : KT H kvs xs) (k : List Key) {y : V} {u : Value} (ry : RelV y u) :
  KT H (kvs.map fun kv => if kv.1 = k then (kv.1, y) else kv) (xs.map (putAt k u)) := by
 induction r with
 | nil => exact .nil
 | @cons p q ps qs h t ih =>
  rw [List.map_cons, List.map_cons]
  refine .cons ?_ ih
  obtain ⟨h1, h2, h3⟩ := h
  unfold putAt
  by_cases e : p.1 = k
  ·rw [if_pos e, if_pos (h1.symm.trans e)]; exact ⟨h1, h2, ry⟩
  ·rw [if_neg e, if_neg (fun z => e (h1.trans z))]; exact ⟨h1, h2, h3⟩
theorem KT.put {H : Hp} {kvs : List (List Key × V)} {xs : List (List Key × Addr × Value)} (r : KT H kvs xs) (k : List Key) {b : Addr} {y : V} {u : Value} (hb : H b = some (.tup (k.map kV))) (ry : RelV y u) :
  KT H (QbZ kvs k y) (storedH xs k b u) := by
 have e : (kvs.any fun kv => decide (kv.1 = k)) = (atKey xs k).isSome := by
  rw [Qby, (r.val k).isSome_eq, Option.isSome_map]
 unfold QbZ storedH
 rw [e]
 by_cases q : (atKey xs k).isSome = true
 ·rw [if_pos q, if_pos q]; exact r.repl k ry
 ·rw [if_neg q, if_neg q]; exact Paired.snoc r ⟨rfl, hb, ry⟩
theorem KT.keeps {H H' : Hp} {kvs : List (List Key × V)} {xs : List (List Key × Addr × Value)} (r : KT H kvs xs) (ht : ∀ b ys, H b = some (.tup ys) → H' b = some (.tup ys)) : KT H' kvs xs :=
 Paired.mapP r fun _ _ z => ⟨z.1, ht _ _ z.2.1, z.2.2⟩
section
variable {P : Program} {w : World} {H : Hp} {h : Heap} {a : Addr}
theorem rd_of {u : HO} (ok : HOk P w H h) (e : Rd H a u) : ObjOk P w H h a u := e.ok ok
theorem Qik {kvs : List (Key × V)} (ok : HOk P w H h) (e : Rd H a (.dK kvs)) : kvs.length ≤ sizeLine ∧ (a == sysModules) = false ∧ ∃ vs, KV kvs vs ∧ h.DictOf (Zf P w) a vs :=
 show ObjOk P w H h a (.dK kvs) from rd_of ok e
theorem QiZ {kvs : List (Key × V)} (ok : HOk P w H h) (e : H a = some (.dK kvs)) : kvs.length ≤ sizeLine ∧ (a == sysModules) = false ∧ ∃ vs, KV kvs vs ∧ h.DictOf (Zf P w) a vs := Qik ok (.inl e)
theorem QgJ {ks : List Key} (ok : HOk P w H h) (e : H a = some (.tup (ks.map kV))) : (tupleKind (Zf P w)).is h ks a := by
 obtain ⟨_, its, r, o, h1, h2, n, h3⟩ := (show ObjOk P w H h a (.tup (ks.map kV)) from ok a _ e)
 exact ⟨o, its.toArray, n, h1, h2, h3, by simpa using QfB r⟩
theorem QiX {kvs : List (List Key × V)} (ok : HOk P w H h) (e : Rd H a (.dT kvs)) : kvs.length ≤ sizeLine ∧ (a == sysModules) = false ∧
  ∃ xs, KT H kvs xs ∧ h.DictOfH (tupleKind (Zf P w)) a xs := by
 obtain ⟨z, y, xs, r, o, es, ep, h1, h2, h3, h4, h5⟩ := (show ObjOk P w H h a (.dT kvs) from rd_of ok e)
 refine ⟨z, y, xs, r, o, es, ep, h1, h2, h3, h4, fun x hx => ?_, h5⟩
 have all : ∀ {l : List (List Key × V)} {m : List (List Key × Addr × Value)}, KT H l m → ∀ x ∈ m, (tupleKind (Zf P w)).is h x.1 x.2.1 := by
  intro l m q
  induction q with
  | nil => intro x hx; exact nomatch hx
  | @cons p q ps qs hq t ih =>
   intro x hx
   rcases List.mem_cons.mp hx with e | hx
   ·subst e
    exact QgJ ok (by rw [← hq.1]; exact hq.2.1)
   ·exact ih x hx
 exact all r x hx
theorem dt_of {kvs : List (List Key × V)} (ok : HOk P w H h) (e : H a = some (.dT kvs)) : kvs.length ≤ sizeLine ∧ (a == sysModules) = false ∧
  ∃ xs, KT H kvs xs ∧ h.DictOfH (tupleKind (Zf P w)) a xs := QiX ok (.inl e)
end
def DGet (H : Hp) (a : Addr) (y : V) (r : Option V) : Prop :=
 (∃ kvs k, Rd H a (.dK kvs) ∧ y = kV k ∧ r = QbP kvs k) ∨ ∃ kvs k b, Rd H a (.dT kvs) ∧ y = .ref b ∧ H b = some (.tup (k.map kV)) ∧ r = QbP kvs k
def DPut (H : Hp) (a : Addr) (y v : V) (H' : Hp) : Prop :=
 (∃ kvs k, H a = some (.dK kvs) ∧ y = kV k ∧ kvs.length < sizeLine ∧ H' = upd H a (.dK (QbZ kvs k v))) ∨
 ∃ kvs k b, H a = some (.dT kvs) ∧ y = .ref b ∧ H b = some (.tup (k.map kV)) ∧ kvs.length < sizeLine ∧ H' = upd H a (.dT (QbZ kvs k v))
theorem DGet.k {H : Hp} {a : Addr} {kvs : List (Key × V)} {k : Key} (e : H a = some (.dK kvs)) : DGet H a (kV k) (QbP kvs k) := .inl ⟨kvs, k, .inl e, rfl, rfl⟩
theorem DGet.t {H : Hp} {a b : Addr} {kvs : List (List Key × V)} {k : List Key} (e : H a = some (.dT kvs)) (eb : H b = some (.tup (k.map kV))) : DGet H a (.ref b) (QbP kvs k) := .inr ⟨kvs, k, b, .inl e, rfl, eb, rfl⟩
theorem DPut.k {H : Hp} {a : Addr} {kvs : List (Key × V)} {k : Key} {v : V} (e : H a = some (.dK kvs)) (hl : kvs.length < sizeLine) : DPut H a (kV k) v (upd H a (.dK (QbZ kvs k v))) := .inl ⟨kvs, k, e, rfl, hl, rfl⟩
theorem DPut.t {H : Hp} {a b : Addr} {kvs : List (List Key × V)} {k : List Key} {v : V} (e : H a = some (.dT kvs)) (eb : H b = some (.tup (k.map kV))) (hl : kvs.length < sizeLine) :
  DPut H a (.ref b) v (upd H a (.dT (QbZ kvs k v))) := .inr ⟨kvs, k, b, e, rfl, eb, hl, rfl⟩
section
variable {X : Cx} {pins : List (Addr × Obj)} {σ : St} {H : Hp} {s : Shared} {a : Addr} {y v : V} {u r : Value} {o : Option V} {A : Around} {E : Value → Shared → Prop}
theorem Inv.big (I : Inv X pins σ H s) : sysModules < s.heap.objs.size := by
 have h : mainGlobals < s.heap.objs.size := (I.mod.glob.keeps I.bk).lt
 exact Nat.lt_trans (by decide) h
theorem Qiq {Q : Value → Shared → Prop} (hu : A.units + 1 < cLine) (I : Inv X pins σ H s) (g : DGet H a y (some v)) (ry : RelV y u) (h : ∀ w' s', Inv X pins σ H s' → RelV v w' → Q w' s') :
  wpAny (model X.prog X.w) A (getItem (.ref a) u) Q E s := by
 rcases g with ⟨kvs, k, e, ey, l⟩ | ⟨kvs, k, b, e, ey, eb, l⟩
 ·subst ey
  obtain ⟨z, hd, vs, rel, dd⟩ := Qik I.hok e
  obtain ⟨w', hw, rw'⟩ := RelO.some_of (v := v) (o := valueAt vs k) (by rw [l]; exact rel.val k)
  exact wpAny_getItem_of (Qga ry) dd.mapOf hw (h w' _ (I.tok _) rw')
 ·subst ey
  cases (show u = Value.ref b from ry)
  obtain ⟨z, hd, xs, rel, dd⟩ := QiX I.hok e
  obtain ⟨w', hw, rw'⟩ := RelO.some_of (v := v) (o := (atKey xs k).map (·.2)) (by rw [l]; exact rel.val k)
  obtain ⟨p, hp, hp2⟩ := Option.map_eq_some_iff.mp hw
  refine wpAny_getItem_heap (tupleKind_room_in1 hu) (QgJ I.hok eb) dd hp ?_
  rw [hp2]
  exact h w' _ (I.tok _) rw'
theorem QjV {Q : Value → Shared → Prop} (hu : A.units + 1 < cLine) (I : Inv X pins σ H s) (g : DGet H a y o) (ry : RelV y u) (h : ∀ s', Inv X pins σ H s' → Q (.bool (!o.isSome)) s') :
  wpAny (model X.prog X.w) A (compareOp .NotIn u (.ref a)) Q E s := by
 rcases g with ⟨kvs, k, e, ey, l⟩ | ⟨kvs, k, b, e, ey, eb, l⟩
 ·subst ey
  obtain ⟨z, hd, vs, rel, dd⟩ := Qik I.hok e
  refine wpAny_notIn_of (Qga ry) hd dd.mapOf ?_
  rw [← (rel.val k).isSome_eq, ← l]
  exact h _ (I.tok _)
 ·subst ey
  cases (show u = Value.ref b from ry)
  obtain ⟨z, hd, xs, rel, dd⟩ := QiX I.hok e
  refine wpAny_notIn_heap (tupleKind_room_in1 hu) (QgJ I.hok eb) hd dd ?_
  have q := (rel.val k).isSome_eq
  rw [Option.isSome_map] at q
  rw [← q, ← l]
  exact h _ (I.tok _)
theorem Qgc {h' : Heap} {t' : Nat} {ob : HO} (I : Inv X pins σ H s) (mu : Mut (H a)) (hs : Heap.SameBut a s.heap h') (he : ∃ q, h'.get? a = some q) (new : ObjOk X.prog X.w (upd H a ob) h' a ob) :
  Inv X pins σ (upd H a ob) { s with heap := h', toks := t' } :=
 I.write (x := a) (e := a) mu (.inl rfl) (fun b q hb z => (hs.2 b hb).trans z) he new
theorem Qil {P : Program} {w : World} {H' : Hp} {h' : Heap} {kvs : List (Key × V)} {vs : List (Key × Value)} (z : kvs.length ≤ sizeLine) (hd : (a == sysModules) = false) (rel : KV kvs vs) (dd : h'.DictOf (Zf P w) a vs) :
  ObjOk P w H' h' a (.dK kvs) := ⟨z, hd, vs, rel, dd⟩
theorem Qip {H' : Hp} {Q : Unit → Shared → Prop} (hu : A.units + 1 < cLine) (I : Inv X pins σ H s) (g : DPut H a y v H') (ry : RelV y u) (rv : RelV v r) (h : ∀ s', Inv X pins σ H' s' → Q () s') :
  wpAny (model X.prog X.w) A (setItem (.ref a) u r) Q E s := by
 rcases g with ⟨kvs, k, e, ey, l, eH⟩ | ⟨kvs, k, b, e, ey, eb, l, eH⟩
 ·subst ey eH
  obtain ⟨z, hd, vs, rel, dd⟩ := QiZ I.hok e
  have hz : vs.length ≤ sizeLine := by rw [← rel.length]; exact z
  have hl : (QbZ kvs k v).length ≤ sizeLine := by have := Qb2 kvs k v; omega
  refine wpAny_setItem_pairs (hsz := hz) (Qga ry) dd fun h' dd' hs => h _ ?_
  have he : ∃ q, h'.get? a = some q := let ⟨q, _, _, hq, _⟩ := dd'; ⟨q, hq⟩
  exact Qgc I (by rw [e]; exact True.intro) hs he (Qil hl hd (rel.put k rv) dd')
 ·subst ey eH
  cases (show u = Value.ref b from ry)
  obtain ⟨z, hd, xs, rel, dd⟩ := dt_of I.hok e
  have hz : xs.length ≤ sizeLine := by rw [← Paired.length rel]; exact z
  have hl : (QbZ kvs k v).length ≤ sizeLine := by have := Qb2 kvs k v; omega
  refine wpAny_setItem_heap (hsz := hz) (tupleKind_room_in1 hu) (QgJ I.hok eb) dd fun h' dd' hs => h _ ?_
  obtain ⟨q, es, ep, hq, h2, h3, h4, _, h5⟩ := dd'
  refine Qgc I (by rw [e]; exact True.intro) hs ⟨q, hq⟩ ⟨hl, hd, _, (rel.put k eb rv).keeps fun c ys ec => ?_, q, es, ep, hq, h2, h3, h4, h5⟩
  rw [Qg (QE ec e (fun z => nomatch z))]
  exact ec
end
section
variable {X : Cx} {pins : List (Addr × Obj)} {σ : St} {H : Hp} {s : Shared} {a : Addr} {kvs : List (Key × V)} {k : Key} {u : Value} {A : Around} {E : Value → Shared → Prop}
theorem d_len {Q : Value → Shared → Prop} (I : Inv X pins σ H s) (e : Rd H a (.dK kvs)) (h : ∀ t s', Inv X pins σ H s' → Q (.int kvs.length t) s') : wpAny (model X.prog X.w) A (call (.builtin "len") [.ref a]) Q E s := by
 obtain ⟨z, hd, vs, rel, dd⟩ := Qik I.hok e
 refine call_len_dict hd dd (by rw [← rel.length]; rw [sizeLine_eq] at z; omega) ?_
 rw [← rel.length]
 exact h _ _ (I.tok _)
end
def NoSl (i : Expr) : Prop := ∀ ov iv, subscripted i false ov iv = operate [ov, iv] (getItem ov iv)
theorem Qjp {prog : Program} {w : World} {A : Around} {E : Value → Shared → Prop} {s : Shared} {env : Env} {value slice : Expr} {pos : Pos} {T id : String} {Q : Value → Shared → Prop}
  (hl : typeLookup (.type T) "__getitem__" = pure (some (.builtin id))) (hs : NoSl slice)
  (h : wpAny (model prog w) A (eval value env) (fun o s₁ => wpAny (model prog w) A (eval slice env) (fun i s₂ => s₂.TypeIs o T ∧ wpAny (model prog w) A (getItem o i) Q E s₂) E s₁) E s) :
  wpAny (model prog w) A (eval (.Subscript value slice pos) env) Q E s := by
 refine Subscript_ (wpAny_mono h (fun o s₁ h₁ => wpAny_mono h₁ (fun i s₂ h₂ => ?_) fun _ _ x => x) fun _ _ x => x)
 obtain ⟨hT, h₂⟩ := h₂
 unfold subscriptTail
 refine wpAny_bind ?_
 rw [getitemInPython_of_ne hT.not_modules]
 refine wpAny_bind (wpAny_specialOf hT hl ?_)
 have fin : wpAny (model prog w) A (subscripted slice false o i) (fun r s₃ => wpAny (model prog w) A (letTemporaryGo value o r >>= fun _ => pure r) Q E s₃) E s₂ := by
  rw [hs o i]
  exact wpAny_operating (wpAny_mono h₂ (fun r s₃ h₃ => wpAny_bind (wpAny_letTemporaryGo (wpAny_pure h₃))) fun _ _ x => x)
 first
  | exact wpAny_pure (wpAny_bind fin)
  | exact wpAny_bind (wpAny_pure (wpAny_bind fin))
  | exact wpAny_bind fin
theorem Qgb {X : Cx} {pins : List (Addr × Obj)} {σ : St} {H : Hp} {s : Shared} {a : Addr} {y : V} {o : Option V} (I : Inv X pins σ H s) (g : DGet H a y o) : s.TypeIs (.ref a) "dict" := by
 rcases g with ⟨kvs, k, e, _, _⟩ | ⟨kvs, k, b, e, _, _, _⟩
 ·obtain ⟨_, _, vs, _, dd⟩ := Qik I.hok e
  exact dd.typeIs
 ·obtain ⟨_, _, xs, _, dd⟩ := QiX I.hok e
  exact dd.typeIs
def tDGet (td ty : TE) : TE := fun σ H Q => td σ H fun x H1 => ty σ H1 fun y H2 => ∃ a v, x = .ref a ∧ DGet H2 a y (some v) ∧ Q v H2
def Qjn (ty td : TE) : TE := fun σ H Q => ty σ H fun y H1 => td σ H1 fun x H2 => ∃ a o, x = .ref a ∧ DGet H2 a y o ∧ Q (.bl (!o.isSome)) H2
def sDPut (td ty tv : TE) : TS := fun D σ H => tv σ H fun v H1 => td σ H1 fun x H2 => ty σ H2 fun y H3 => ∃ a H4, x = .ref a ∧ DPut H3 a y v H4 ∧ D.nx σ H4
section
variable {X : Cx} {o i e value : Expr} {pos pos' tpos : Pos} {td ty tv : TE}
theorem Zu (hu : X.A.units + 1 < cLine) (ho : PE X o td) (hi : PE X i ty) (hs : NoSl i) : PE X (.Subscript o i pos) (tDGet td ty) := by
 intro pins s σ H Q I h
 refine Qjp PySem.F.slot_dict_getitem.lookup hs (thn (ho pins s σ H _ I h) fun u s1 ⟨x, H1, I1, rx, q1⟩ => thn (hi pins s1 σ H1 _ I1 q1) fun iv s2 ⟨y, H2, I2, ry, a, v, ex, g, q2⟩ => ?_)
 subst ex
 obtain rfl : u = Value.ref a := rx
 exact ⟨Qgb I2 g, Qiq hu I2 g ry fun w' s3 I3 rw' => ⟨v, H2, I3, rw', q2⟩⟩
theorem Qft (hu : X.A.units + 1 < cLine) (hi : PE X i ty) (ho : PE X o td) : PC X .NotIn i o (Qjn ty td) := by
 intro pins s σ H Q I h
 refine thn (hi pins s σ H _ I h) fun iv s1 ⟨y, H1, I1, ry, q1⟩ => thn (ho pins s1 σ H1 _ I1 q1) fun u s2 ⟨x, H2, I2, rx, a, ov, ex, g, q2⟩ => ?_
 subst ex
 obtain rfl : u = Value.ref a := rx
 exact QjV hu I2 g ry fun s3 I3 => ⟨.bl (!ov.isSome), H2, I3, rfl, q2⟩
theorem QaG (hu : X.A.units + 1 < cLine) (ho : PE X o td) (hi : PE X i ty) (hv : PE X value tv) (hs : swapsWith value (some (.Subscript o i pos')) pos.line X.env = pure false) :
  PS X (.Assign [.Subscript o i pos'] value pos) (sDPut td ty tv) := by
 intro pins s σ H D I h
 refine wpAny_Assign_Subscript (thn (hv pins s σ H _ I h) fun r s1 ⟨v, H1, I1, rv, q1⟩ => thn (ho pins s1 σ H1 _ I1 q1) fun u s2 ⟨x, H2, I2, rx, q2⟩ => thn (hi pins s2 σ H2 _ I2 q2) fun iv s3 ⟨y, H3, I3, ry, a, H4, ex, g, q3⟩ => ?_) hs
 subst ex
 obtain rfl : u = Value.ref a := rx
 exact Qip hu I3 g ry rv fun s4 I4 => ⟨σ, H4, I4, q3⟩
end
theorem QgM {P : Program} {w : World} {H : Hp} (h : Heap) (hb : sysModules < h.objs.size) : ObjOk P w H (h.push { cls := .type "dict", data := .dict #[] }) h.objs.size (.dK []) :=
 ⟨Nat.zero_le _, beq_eq_false_iff_ne.mpr (Ne.symm (Nat.ne_of_lt hb)), [], .nil, Heap.DictOf.new h⟩
def tDNewK : TE := fun _ H Q => ∀ p, H p = none → Q (.ref p) (upd H p (.dK []))
section
variable {X : Cx} {pos : Pos}
theorem QbE : PE X (.Dict [] [] pos) tDNewK := fun pins s σ H Q I h =>
 wpAny_Dict_empty ⟨.ref s.heap.objs.size, _, I.laid (a := s.heap.objs.size) (o := .dK []) (t' := s.toks) (fun _ _ q => Heap.get?_push_of_some _ q) (Nat.le_refl _) (QgM s.heap I.big), rfl, h _ (I.hok.fresh (Nat.le_refl _))⟩
end
def Qho : List (TE × TE) → St → Hp → (List (V × V) → Hp → Prop) → Prop
 | [], _, H, Q => Q [] H
 | (tk, tv) :: r, σ, H, Q => tk σ H fun x H1 => tv σ H1 fun y H2 => Qho r σ H2 fun ps H3 => Q ((x, y) :: ps) H3
abbrev VV : List (V × V) → List (Value × Value) → Prop := Paired fun p q => RelV p.1 q.1 ∧ RelV p.2 q.2
def PPs (X : Cx) (pos : Pos) (keys : List (Option Expr)) (values : List Expr) (trs : List (TE × TE)) : Prop :=
 ∀ (pins : List (Addr × Obj)) (s : Shared) (σ : St) (H : Hp) (Q : List (V × V) → Hp → Prop), Inv X pins σ H s → Qho trs σ H Q →
  wpAny (model X.prog X.w) X.A (evalPairs (pairTrees keys values X.env pos)) (fun vs s' => ∃ ps H', Inv X pins σ H' s' ∧ VV ps vs ∧ Q ps H') X.xe s
theorem QjB {X : Cx} {pos : Pos} : PPs X pos [] [] [] := fun pins s σ H Q I h => pairTrees_nil_walk ⟨[], H, I, .nil, h⟩
theorem QiH {X : Cx} {pos : Pos} {k v : Expr} {ks : List (Option Expr)} {vs : List Expr} {tk tv : TE} {trs : List (TE × TE)} (hk : PE X k tk) (hv : PE X v tv) (hr : PPs X pos ks vs trs) :
  PPs X pos (some k :: ks) (v :: vs) ((tk, tv) :: trs) := fun pins s σ H Q I h =>
 pairTrees_cons_walk (thn (hk pins s σ H _ I h) fun u s1 ⟨x, H1, I1, rx, q1⟩ => thn (hv pins s1 σ H1 _ I1 q1) fun w2 s2 ⟨y, H2, I2, ry, q2⟩ =>
  thn (hr pins s2 σ H2 _ I2 q2) fun ws s3 ⟨ps, H3, I3, rel, q3⟩ => ⟨(x, y) :: ps, H3, I3, .cons ⟨rx, ry⟩ rel, q3⟩)
def Qfy (kvs more : List (Key × V)) : List (Key × V) := more.foldl (fun acc kv => QbZ acc kv.1 kv.2) kvs
theorem KV.merge : ∀ {more : List (Key × V)} {rs : List (Key × Value)} {kvs : List (Key × V)} {vs : List (Key × Value)}, KV more rs → KV kvs vs → KV (Qfy kvs more) (merged vs rs) := by
 intro more rs kvs vs r
 unfold KV at r
 induction r generalizing kvs vs with
 | nil => intro q; exact q
 | @cons p q ps qs h t ih =>
  intro r0
  have e : KV (QbZ kvs p.1 p.2) (stored vs q.1 q.2) := by
   have := r0.put p.1 h.2
   rw [← h.1]; exact this
  exact ih e
theorem Qcl : ∀ (more kvs : List (Key × V)), (Qfy kvs more).length ≤ kvs.length + more.length
 | [], kvs => by show kvs.length ≤ kvs.length + 0; omega
 | p :: r, kvs => by
  have h1 := Qcl r (QbZ kvs p.1 p.2)
  have h2 := Qb2 kvs p.1 p.2
  show (Qfy (QbZ kvs p.1 p.2) r).length ≤ _
  rw [List.length_cons]; omega
theorem Qet {P : Program} {w : World} : ∀ {kvs : List (Key × V)} {ws : List (Value × Value)}, VV (kvs.map fun kv => (kV kv.1, kv.2)) ws → ∃ rs, Carries (Zf P w) ws rs ∧ KV kvs rs
 | [], _, r => by rw [List.map_nil] at r; cases r; exact ⟨[], True.intro, .nil⟩
 | p :: kvs, _, r => by
  rw [List.map_cons] at r
  cases r with
  | @cons a b as bs h t =>
   obtain ⟨rs, c, q⟩ := Qet (P := P) (w := w) t
   obtain ⟨b1, b2⟩ := b
   exact ⟨(p.1, b2) :: rs, ⟨Qga h.1, rfl, c⟩, .cons ⟨rfl, h.2⟩ q⟩
def tDisp (trs : List (TE × TE)) : TE := fun σ H Q => ∀ p, H p = none → Qho trs σ (upd H p (.dK [])) fun ps H2 => H2 p = some (.dK []) ∧ ∃ kvs : List (Key × V), ps = kvs.map (fun kv => (kV kv.1, kv.2)) ∧ kvs.length ≤ 15 ∧ Q (.ref p) (upd H2 p (.dK (Qfy [] kvs)))
theorem QjE {X : Cx} {pos : Pos} {keys : List (Option Expr)} {values : List Expr} {trs : List (TE × TE)} (h : PPs X pos keys values trs) (hall : keys.all (·.isSome) = true) (hl : keys.length = values.length) (h0 : keys ≠ [])
  (h15 : keys.length ≤ 15) : PE X (.Dict keys values pos) (tDisp trs) := by
 intro pins s σ H Q I q
 have hn := I.hok.fresh (Nat.le_refl s.heap.objs.size)
 have I1 := I.laid (a := s.heap.objs.size) (o := .dK []) (h' := s.heap.push { cls := .type "dict", data := .dict #[] }) (t' := s.toks) (fun _ _ q => Heap.get?_push_of_some _ q) (Nat.le_refl _) (QgM s.heap I.big)
 refine wpAny_Dict_walk (knd := Zf X.prog X.w) hall hl h0 h15 (thn (h pins _ σ _ _ I1 (q _ hn)) fun ws s2 ⟨ps, H2, I2, rel, e, kvs, ep, lk, q2⟩ => ?_)
 subst ep
 obtain ⟨rs, c, rk⟩ := Qet (P := X.prog) (w := X.w) rel
 obtain ⟨z, hd, vs0, r0, dd⟩ := QiZ I2.hok e
 cases r0
 refine ⟨rs, c, dd, fun h' dd' hs => ⟨.ref s.heap.objs.size, _, ?_, rfl, q2⟩⟩
 have hz : (Qfy [] kvs).length ≤ sizeLine := by
  have h1 := Qcl kvs []
  rw [List.length_nil] at h1
  rw [sizeLine_eq]; omega
 have he : ∃ q, h'.get? s.heap.objs.size = some q := let ⟨q, _, _, hq, _⟩ := dd'; ⟨q, hq⟩
 exact Qgc I2 (by rw [e]; exact True.intro) hs he (Qil hz hd (rk.merge .nil) dd')
structure M2 (X : Cx) (o : Expr) (m : Str) (apos : Pos) (e f : Expr) (cpos : Pos) : Prop where
 base : attributeBase o m X.env (eval o X.env) = eval o X.env
 few : ((backTo cpos (starEach [e, f] X.env)).all (fun x => !x.1) && (backToKw cpos (keywordEach [] X.env)).all (fun x => x.1.isSome)
  && decide (([e, f] : List Expr).length + ([] : List Keyword).length + (if ([] : List Keyword).isEmpty then 0 else 1) < 30)) = true
 line : (apos.endLine == cpos.line) = true
 trees : backTo cpos (starEach [e, f] X.env) = [(false, eval e X.env), (false, eval f X.env)]
section
variable {X : Cx} {pins : List (Addr × Obj)} {σ : St} {H : Hp} {s : Shared} {a : Addr} {y d : V} {u r : Value} {o : Option V} {A : Around} {E : Value → Shared → Prop}
end
section
variable {X : Cx} {o e f : Expr} {apos cpos : Pos} {td ty tx : TE}
end
section
variable {X : Cx} {pins : List (Addr × Obj)} {σ : St} {H : Hp} {s : Shared} {a : Addr} {kvs : List (Key × V)} {A : Around} {E : Value → Shared → Prop}
end
section
variable {X : Cx} {pins : List (Addr × Obj)} {σ : St} {H : Hp} {s : Shared} {a : Addr} {y : V} {u : Value} {A : Around} {E : Value → Shared → Prop}
end
end L2
namespace Att
open PySem PySem.W PySem.Calls PyProof.Rows
theorem QdK {P : Params} {h : Heap} : ∀ (ns : List Int) (vs : List Value), WellAll P h vs (ns.map WData.int) → IntsAre vs ns := by
 intro ns
 induction ns with
 | nil =>
  intro vs w
  rw [List.map_nil] at w
  cases w
  exact .nil
 | cons n ns ih =>
  intro vs w
  rw [List.map_cons] at w
  cases w with
  | cons a b =>
   cases a
   exact .cons _ _ (ih _ b)
theorem QhI {l : OpenLaw} {n : Nat} (hn : l.most = some n) {P : Params} {h : Heap} {args : List WData} {vals : List Value}
  (hpre : l.row.toRowW.claim.pre args = true) (hwl : WellAll P h vals args) :
  ∃ a vs ns, vals = [Value.ref a] ∧ args = [WData.list (ns.map WData.int)] ∧ h.get? a = some { cls := .type "list", data := .seq vs.toArray } ∧ IntsAre vs ns ∧ ns.length ≤ n := by
 have hsh : WShape.hasAll [] args [.list .int] = true := (pre_splitW hpre).1
 have hc : l.pre.holds [] { args := args } = true := (pre_splitW hpre).2
 obtain ⟨d, r, rfl, h1, h2⟩ := hasAllW_cons hsh
 obtain rfl := hasAllW_nil h2
 obtain ⟨xs, rfl, h3⟩ := hasW_list h1
 obtain ⟨ns, rfl⟩ := items_int h3
 have hlen : ns.length ≤ n := by
  unfold OpenLaw.pre at hc
  have h4 : (WTm.not (.lt (.lit (.int (n : Int))) (.len (.arg 0)))).holds [] { args := [.list (ns.map .int)] } = true := by
   have h4 := (holds_andW hc).1
   rw [hn] at h4
   exact h4
  have h5 := condW_of h4 (w_not (w_lt w_lit (w_len_list (w_arg rfl))))
  rw [List.length_map] at h5
  refine Nat.le_of_not_lt fun q => ?_
  have q' : (n : Int) < ((ns.length : Nat) : Int) := by omega
  first
   | (rw [decide_eq_true q'] at h5; exact absurd h5 (by decide))
   | (simp at h5; omega)
 cases hwl with
 | cons w1 w2 =>
  cases w2
  cases w1 with
  | list ho hall => exact ⟨_, _, ns, rfl, rfl, ho, QdK ns _ hall, hlen⟩
theorem QhT (l : OpenLaw) (args : List WData) : l.row.toRowW.claim.post args (.bool true) args = true :=
 postW_of (r := l.row.toRowW) (X := (true == true))
  (show WShape.has [] (.bool true) .bool = true by first | rfl | decide | simp [WShape.has, WShape.arms, WShape.armsAll])
  (show (WTm.eq .res (.lit (.bool true))).value [] { args := args, res := some (.bool true), after := args } = some (.bool (true == true)) from w_eq_bool (w_res rfl) w_lit) rfl
theorem attach_call {l : OpenLaw} {n : Nat} {q : Program} {loose : List Str} {XP : (Str → Option Value) → Heap → Prop} {YP : World → Heap → Prop} {d : DefRec}
  (hn : l.most = some n) (hdf : d.params.defaults = [])
  (call : ∀ (w : World) (s₀ s₁ : Shared) (mg mb : Str → Option Value) (fa : Addr) (o : Obj) (pm cd doc : Value) (a : Addr) (vs : List Value) (ns : List Int),
   Ground q loose [] XP w s₀ mg mb s₁.heap → YP w s₁.heap →
   s₁.heap.get? fa = some o → o.data = .func (docDef d.name d.params d.body d.scope pm cd doc) → s₁.heap.CodeRec cd d.name → mg d.name = some (.ref fa) →
   s₁.heap.get? a = some { cls := .type "list", data := .seq vs.toArray } → IntsAre vs ns → ns.length ≤ n → s₁.gens = #[] →
   codeAny (model l.prog w) callerA (.call (.ref fa) ⟨[.ref a], []⟩) (fun r s' => r = .ok (.ret (.bool true)) ∧ OldK s₁.heap s'.heap ∧ s'.os = s₁.os ∧ AllBare s'.gens) s₁) :
  WalkO q loose XP YP l.row.toRowW d [] (fun f vs => PySem.call f vs) := by
 intro w s₀ s₁ mg mb G Y fa o pm cd doc dV kV ho hd hcd hD hmg hg args vals as hpre hlay hrd hwl hlo
 obtain rfl : dV = .none := Dflts.none hD hdf
 obtain rfl : kV = .none := Dflts.noKw hD
 obtain ⟨a, vs, ns, rfl, rfl, hobj, hints, hlen⟩ := QhI hn hpre hwl
 refine enter_call (codeAny_mono (call w s₀ s₁ mg mb fa o pm cd doc a vs ns G Y ho (fd_plain hd) hcd hmg hobj hints hlen hg) fun r s' hq => ?_)
 obtain ⟨rfl, h2, h3, h4⟩ := hq
 exact ⟨.inl ⟨.bool true, .bool true, [], rfl, fun _ => rfl, .bool true, QhT l _, fun _ => ⟨List.Pairwise.nil, fun _ hm => (nomatch hm)⟩⟩, h2, h3, h4⟩
section
variable {prog : Program} {w : World} {A : Around} {E : Value → Shared → Prop} {s : Shared} {K : Frag}
def ledger (h : Heap) (L d : Addr) : List (Addr × Obj) := (List.range h.objs.size).filterMap fun a => if a = L ∨ a = d then none else (h.get? a).map fun o => (a, o)
end
end Att
namespace L2
open PySem PySem.Spec PyProof.Rows
theorem Qfd : ∀ {vs : List Value} {ns : List Int}, IntsAre vs ns → Vals (ns.map V.int) vs
 | _, _, .nil => .nil
 | _, _, .cons n t h => .cons ⟨t, rfl⟩ (Qfd h)
def Only (H : Hp) : Prop := ∀ b, H b = none ∨ ∃ o xs, H b = some (.frz o (.lst xs))
theorem QiP {P : Program} {w : World} {K : PySem.W.Frag} {mg mb : Str → Option Value} {CX : CXT} {k : Nat} {fa a : Addr} {fd : FuncData} {x : Str} {sp : Sp} {s₁ : Shared} {vs : List Value} {ns : List Int}
  (KX : K.In s₁.heap) (hns : s₁.heap.Ns mainGlobals mg) (hb : s₁.heap.Ns builtinsNs mb) (hbb : ∀ x : Str, x ≠ "__name__" → mb x = bootBuiltins x) (hlim : s₁.heap.NoLimit) (hg : s₁.gens = #[])
  (ha : s₁.heap.get? a = some { cls := .type "list", data := .seq vs.toArray }) (hi : IntsAre vs ns) (hl : ns.length ≤ sizeLine) (hr : Room k callerA)
  (F : ∀ base : Heap, K.In base → base.Ns mainGlobals mg → FnOk P w K mg base CX k fa fd [x] sp) (hbind : ∀ (s : Shared) (u : Value), BindsTo s fd ⟨[u], []⟩ [(x, u)])
  (hsp : ∀ H : Hp, Only H → SqL K H a (ns.map V.int) → sp [.ref a] H (fun v _ => v = .bl true) fun _ _ _ => False)
  (hCX : ∀ H e s', CX [] H s₁ (fun _ _ _ => False) e s' → False) :
  codeAny (model P w) callerA (.call (.ref fa) ⟨[.ref a], []⟩) (fun r s' => r = .ok (.ret (.bool true)) ∧ OldK s₁.heap s'.heap ∧ s'.os = s₁.os ∧ AllBare s'.gens) s₁ := by
 have rv := Qfd hi
 have lenV := hi.length
 have core : ∀ H : Hp, Only H → SqL K H a (ns.map V.int) → HOk P w H s₁.heap → (∀ b, H b ≠ none → b = a) → (H a ≠ none → K.lookup a = none) →
   codeAny (model P w) callerA (.call (.ref fa) ⟨[.ref a], []⟩) (fun r s' => r = .ok (.ret (.bool true)) ∧ OldK s₁.heap s'.heap ∧ s'.os = s₁.os ∧ AllBare s'.gens) s₁ := by
  intro H hO hS hok hA hK
  have base_of : ∀ {b : Addr} {o : Obj}, s₁.heap.get? b = some o → H b = none → (QiR s₁.heap H).get? b = some o := fun e n => QiQ e n
  have noA : ∀ {b : Addr} {o : Obj} {es : Array DictEntry} {ep : Nat}, s₁.heap.get? b = some o → o.data = .dict es ep → H b = none := fun {b o es ep} e d => by
   cases q : H b with
   | none => rfl
   | some u =>
    have e' : b = a := hA b (by rw [q]; simp)
    subst e'
    rw [ha] at e; cases e
    have d' : Data.seq vs.toArray _ = Data.dict es ep := d
    cases d'
  have nsK : ∀ {b : Addr} {m : Str → Option Value}, s₁.heap.Ns b m → (QiR s₁.heap H).Ns b m := fun {b m} ⟨o, es, ep, e, d, r⟩ => ⟨o, es, ep, base_of e (noA e d), d, r⟩
  have hKb : K.In (QiR s₁.heap H) := fun b o e => base_of (KX b o e) (by
   cases q : H b with
   | none => rfl
   | some u =>
    have e' : b = a := hA b (by rw [q]; simp)
    subst e'
    rw [hK (by rw [q]; simp)] at e; cases e)
  have hM : Mod K mg (QiR s₁.heap H) := ⟨hKb, nsK hns, ⟨mb, nsK hb, hbb⟩, let ⟨mc, h1, h2⟩ := hlim; ⟨mc, nsK h1, h2⟩⟩
  have e0 : Env0 P w K mg (QiR s₁.heap H) callerA [] s₁ H := ⟨rfl, hM, fun b o e => QjG e, Nat.le_of_eq (Qic _ _), trivial, fun b hb => absurd (show b ∈ ([] : List Addr) from hb) (by simp), hok, .of_eq hg⟩
  refine codeAny_mono ((F _ hKb (nsK hns)).run callerA [] s₁ H ⟨[.ref a], []⟩ [.ref a] [.ref a] _ _ hr e0 (hbind s₁ (.ref a)) (.cons rfl .nil) (hsp H hO hS)) fun r s' h => ?_
  cases r with
  | error e => exact (hCX H e s' h).elim
  | ok fl =>
   cases fl with
   | next => exact False.elim h
   | brk => exact False.elim h
   | cont => exact False.elim h
   | ret u =>
    obtain ⟨v, H', os, bare, un, hok', r', q⟩ := h
    have q' : v = .bl true := q
    subst q'
    obtain rfl : u = Value.bool true := r'
    refine ⟨rfl, OldK.of_keep fun b o e => ?_, os, bare⟩
    cases q : H b with
    | none => exact un.keep b o e q (by intro z; exact absurd (show b ∈ ([] : List Addr) from z) (by simp)) (by simp)
    | some u =>
     rcases hO b with z | ⟨ob, xs, z⟩
     ·rw [q] at z; cases z
     ·have z2 := un.frzs b ob _ z
      obtain ⟨e1, _⟩ := hok b _ z
      obtain ⟨e2, _⟩ := hok' b _ z2
      rw [e] at e1; cases e1
      exact e2
 cases hk : K.lookup a with
 | some o =>
  have e := KX a o hk
  rw [ha] at e
  cases e
  refine core (fun _ => none) (fun _ => .inl rfl) (.inr ⟨_, vs.toArray, _, hk, rfl, rfl, rfl, by rw [List.size_toArray, lenV]; exact hl, by simpa using rv⟩) (fun b u z => by have z' : (none : Option HO) = some u := z; cases z') (fun b z => absurd rfl z) fun z => absurd rfl z
 | none =>
  refine core (fun b => if b = a then some (.frz { cls := .type "list", data := .seq vs.toArray } (.lst (ns.map V.int))) else none) (fun b => ?_) (.inl (.inr ⟨{ cls := .type "list", data := .seq vs.toArray }, if_pos rfl⟩)) (fun b u z => ?_) (fun b z => ?_) fun _ => hk
  ·by_cases hb : b = a
   ·exact .inr ⟨_, _, if_pos hb⟩
   ·exact .inl (if_neg hb)
  ·by_cases hb : b = a
   ·have z' := (if_pos hb).symm.trans z
    cases z'
    subst hb
    exact ⟨ha, by rw [List.length_map]; exact hl, vs, _, rv, ha⟩
   ·have z' := (if_neg hb).symm.trans z
    cases z'
  ·by_cases hb : b = a
   ·exact hb
   ·exact absurd (if_neg hb) z
end L2
namespace L2
open PySem PySem.Spec PyProof.Rows
theorem walk_of {l : PySem.W.OpenLaw} {n k : Nat} {q : Program} {loose : List Str} {XP : (Str → Option Value) → Heap → Prop} {YP : World → Heap → Prop} {d : DefRec} {K : Params → PySem.W.Frag} {CX : World → CXT} {sp : World → Sp} {x : Str}
  (hn : l.most = some n) (hn2 : n ≤ sizeLine) (hdf : d.params.defaults = []) (hr : Room k callerA)
  (hY : ∀ (w : World) (h : Heap), YP w h → (K w.params).In h)
  (F : ∀ (w : World) (mg : Str → Option Value) (fa : Addr) (h : Heap), (K w.params).In h → h.Ns mainGlobals mg → mg d.name = some (.ref fa) →
   ∃ fd : FuncData, (∀ (s : Shared) (u : Value), BindsTo s fd ⟨[u], []⟩ [(x, u)]) ∧
    ∀ base : Heap, (K w.params).In base → base.Ns mainGlobals mg → FnOk l.prog w (K w.params) mg base (CX w) k fa fd [x] (sp w))
  (hsp : ∀ (w : World) (H : Hp) (a : Addr) (ns : List Int), ns.length ≤ n → Only H → SqL (K w.params) H a (ns.map V.int) → sp w [.ref a] H (fun v _ => v = .bl true) fun _ _ _ => False)
  (hCX : ∀ (w : World) (H : Hp) (s : Shared) (e : Value) (s' : Shared), CX w [] H s (fun _ _ _ => False) e s' → False) :
  PySem.W.WalkO q loose XP YP l.row.toRowW d [] (fun f vs => PySem.call f vs) := by
 refine Att.attach_call hn hdf fun w s₀ s₁ mg mb fa o pm cd doc a vs ns G Y ho hd hcd hmg hobj hints hlen hg => ?_
 have KX := hY w _ Y
 obtain ⟨fd, hb, hF⟩ := F w mg fa _ KX G.T.g hmg
 exact QiP KX G.T.g G.T.b G.T.builtins G.T.nolimit hg hobj hints (Nat.le_trans hlen hn2) hr hF hb (fun H hO hS => hsp w H a ns hlen hO hS) fun H e s' => hCX w H s₁ e s'
end L2
namespace L2
open PySem PySem.Spec PyProof.Rows
def QI (s : Stmt) (j : Nat) : Stmt := match s with
 | .ClassDef _ _ _ body _ _ _ _ _ _ _ => body.getD j (.Pass ⟨0, 0, 0, 0⟩)
 | _ => .Pass ⟨0, 0, 0, 0⟩
def Qn (s : Stmt) : Arguments := match s with
 | .FunctionDef _ a _ _ _ _ _ _ _ _ => a
 | _ => { posonlyargs := [], args := [], vararg := none, kwonlyargs := [], kw_defaults := [], kwarg := none, defaults := [] }
def Qj (s : Stmt) : List Stmt := match s with
 | .FunctionDef _ _ b _ _ _ _ _ _ _ => b
 | _ => []
def Qc (s : Stmt) : Scope := match s with
 | .FunctionDef _ _ _ _ _ _ sc _ _ _ => sc
 | _ => { kind := .function, names := [], isGenerator := false, isCoroutine := false }
abbrev CX0 : CXT := fun _ _ _ _ _ _ => False
abbrev E0 : XK := fun _ _ _ => False
theorem Qp {X : Cx} : QdV CX0 X E0 := fun _ _ _ _ _ _ _ h => h.elim
structure Fun (K : PySem.W.Frag) (x qual : Str) (st : Stmt) (f : Addr) (fd : FuncData) : Prop where
 ex : ∃ (oc : Value) (od : Option Addr) (kV doc pm : Value) (an : Option Addr) (cdv ct : Value) (osl : Array (Option Value)),
  fd = PySem.W.fnOf x qual (Qn st) (Qj st) (Qc st) .none kV doc pm an cdv ct ∧ K.lookup f = some ⟨oc, od, .func fd, osl⟩ ∧ PySem.W.codeIn K cdv qual = true
 kp : PySem.W.keepIn K (.ref f) = true
section
variable {P : Program} {w : World} {K : PySem.W.Frag} {mg : Str → Option Value} {base : Heap}
theorem Fun.ok {x qual : Str} {st : Stmt} {f : Addr} {fd : FuncData} {N ps : List Str} {k : Nat} {sp : Sp} (F : Fun K x qual st f fd) (S : Qk N ps (Qc st)) (len : ∀ vs H Q E, sp vs H Q E → vs.length = ps.length)
  (hbody : ∀ (cdv : Value) (A : Around) (outer : List Env) (s : Shared) (H : Hp) (vs : List V) (Q : VK) (E : XK), Room k (A.deeper (envOfC qual (Qc st) s.heap.objs.size f cdv)) → sp vs H Q E →
   ∃ t, PSs (QjW CX0 P w K mg base N qual (Qc st) f cdv A outer s H E).nox (Qj st) t ∧ t { nx := fun _ H' => Q .non H', rt := Q } (Qez N vs) H) : FnOk P w K mg base CX0 (k + 1) f fd ps sp := by
 obtain ⟨oc, od, kV, doc, pm, an, cdv, ct, osl, rfl, lk, hcd⟩ := F.ex
 refine fn_of lk hcd S len fun A outer s H vs Q E hr hsp => ?_
 obtain ⟨t, h, q⟩ := hbody cdv A outer s H vs Q E hr hsp
 exact ⟨t, h.nox, q⟩
theorem Fun.binds {x qual : Str} {st : Stmt} {f : Addr} {fd : FuncData} {ps : List Str} (F : Fun K x qual st f fd)
  (h : ∀ (kV doc pm : Value) (an : Option Addr) (cdv ct : Value) (us : List Value), us.length = ps.length → bindArgs (PySem.W.fnOf x qual (Qn st) (Qj st) (Qc st) .none kV doc pm an cdv ct) ⟨us, []⟩ = pure (ps.zip us)) : Binds K fd ps [] := by
 obtain ⟨oc, od, kV, doc, pm, an, cdv, ct, osl, rfl, lk, hcd⟩ := F.ex
 exact .all (h kV doc pm an cdv ct)
theorem QG {x qual : Str} {st : Stmt} {f : Addr} {oc : Value} {od an : Option Addr} {osl : Array (Option Value)} {kV doc pm cdv ct : Value} (l : K.lookup f = some ⟨oc, od, .func (PySem.W.fnOf x qual (Qn st) (Qj st) (Qc st) .none kV doc pm an cdv ct), osl⟩)
  (c : PySem.W.codeIn K cdv qual = true) (k : PySem.W.keepIn K (.ref f) = true) : Fun K x qual st f (PySem.W.fnOf x qual (Qn st) (Qj st) (Qc st) .none kV doc pm an cdv ct) := ⟨⟨oc, od, kV, doc, pm, an, cdv, ct, osl, rfl, l, c⟩, k⟩
end
theorem Q0 {A : Around} {k : Nat} (hr : Room k A) : A.units + 1 < cLine := Nat.lt_of_le_of_lt (Nat.add_le_add_left (by decide : 1 ≤ 64) _) hr.units
theorem QP {n : Nat} (h : n ≤ 1000) : n < sizeLine := Nat.lt_of_le_of_lt h (by decide)
section
variable {X : Cx}
theorem pv (i : Nat) {x : Str} {pos : Pos} (hN : X.N[i]? = some x := by rfl) (hv : Vis X.env.scope x := by first | exact Or.inl rfl | exact Or.inr (Or.inl rfl) | exact Or.inr (Or.inr rfl)) (hd : (x == ("__debug__" : Str)) = false := by decide)
  (hcd : (x == ("__classdict__" : Str)) = false := by decide) : PE X (.Name x pos) (tVar i) := pe_var hN hv hd hcd
theorem QfK : Qc4 X (.builtin "len") (fun xs H Q => ∃ a kvs, xs = [V.ref a] ∧ H a = some (.dK kvs) ∧ Q (.int kvs.length) H) := by
 intro pins s σ H xs us Q I r h
 obtain ⟨a, kvs, rfl, ha, q⟩ := h
 obtain ⟨u, rfl, ru⟩ := Qey r
 cases ru
 exact d_len I (.inl ha) fun t s' I' => ⟨.int kvs.length, H, I', ⟨t, rfl⟩, q⟩
end
theorem Qbc {A B : Prop} (h : B) : if false = true then A else B := by
 rw [if_neg Bool.false_ne_true]
 exact h
theorem Qcm {A B : Prop} (h : A) : if true = true then A else B := by
 rw [if_pos rfl]
 exact h
theorem Qg6 {c A B : Prop} [Decidable c] (h1 : c → A) (h2 : ¬ c → B) : if c then A else B := by
 by_cases h : c
 ·rw [if_pos h]
  exact h1 h
 ·rw [if_neg h]
  exact h2 h
theorem Qg5 {c A B : Prop} [Decidable c] (hc : c) (h : B) : if (!decide c) = true then A else B := by
 rw [decide_eq_true hc]
 exact Qbc h
def Same (H H' : Hp) : Prop := ∀ b o, H b = some o → H' b = some o
theorem Same.refl (H : Hp) : Same H H := fun _ _ h => h
theorem Same.trans {H H1 H2 : Hp} (a : Same H H1) (b : Same H1 H2) : Same H H2 := fun c o h => b c o (a c o h)
theorem Same.free {H H' : Hp} (e : Same H H') {l : Addr} (h : H' l = Option.none) : H l = Option.none := by
 cases q : H l with
 | none => rfl
 | some o =>
  rw [e l o q] at h
  cases h
theorem Same.seq {K : PySem.W.Frag} {H H' : Hp} {a : Addr} {xs : List V} (e : Same H H') (h : SqL K H a xs) : SqL K H' a xs := by
 rcases h with (h | ⟨o, h⟩) | h
 ·exact .inl (.inl (e _ _ h))
 ·exact .inl (.inr ⟨o, e _ _ h⟩)
 ·exact .inr h
section
variable {κ : Type} [DecidableEq κ]
theorem QiB {kvs : List (κ × V)} {k : κ} (h : QbP kvs k = none) : ¬ k ∈ kvs.map (·.1) := by
 intro m
 obtain ⟨p, hp, e⟩ := List.mem_map.mp m
 have q : (kvs.any fun kv => decide (kv.1 = k)) = true := List.any_eq_true.mpr ⟨p, hp, decide_eq_true e⟩
 rw [Qby, h] at q
 exact absurd q (by simp)
theorem Qhl {kvs : List (κ × V)} {k : κ} {v : V} (h : QbP kvs k = some v) : k ∈ kvs.map (·.1) := by
 have q : (kvs.any fun kv => decide (kv.1 = k)) = true := by
  rw [Qby, h]
  all_goals rfl
 obtain ⟨p, hp, e⟩ := List.any_eq_true.mp q
 exact List.mem_map.mpr ⟨p, hp, of_decide_eq_true e⟩
theorem QdD : ∀ {l : List κ} {k : κ}, l.Nodup → ¬ k ∈ l → (l ++ [k]).Nodup
 | [], k, _, _ => by simp
 | a :: r, k, h, hk => by
  obtain ⟨h1, h2⟩ := List.nodup_cons.mp h
  show (a :: (r ++ [k])).Nodup
  refine List.nodup_cons.mpr ⟨fun m => ?_, QdD h2 fun m => hk (List.mem_cons.mpr (Or.inr m))⟩
  rcases List.mem_append.mp m with q | q
  ·exact h1 q
  ·exact hk (List.mem_cons.mpr (Or.inl (List.mem_singleton.mp q).symm))
end
end L2
namespace L2
open PySem PySem.Spec PyProof.Rows
theorem Qes {α β : Type} {f : α → β → Sem (ForInStep β)} (g : α → β → β) : ∀ (l : List α) (c : β), (∀ x ∈ l, ∀ c, f x c = pure (.yield (g x c))) → forIn l c f = pure (l.foldl (fun c x => g x c) c)
 | [], _, _ => rfl
 | x :: l, c, h => by
  rw [List.forIn_cons, h x List.mem_cons_self, pure_bind]
  exact Qes g l (g x c) fun y hy => h y (List.mem_cons_of_mem _ hy)
def Qa3 (env : Env) (y : Str × NameKind) (cs : List (Str × Addr)) : List (Str × Addr) := if (y.2 == NameKind.free) = true then (y.1, (env.cells.lookup y.1).getD 0) :: cs else cs
def QbT (env : Env) (l : List (Str × NameKind)) (cs : List (Str × Addr)) : List (Str × Addr) := l.foldl (fun cs y => Qa3 env y cs) cs
def Qct (env : Env) (l : List (Str × NameKind)) : Prop := ∀ y ∈ l, y.2 = .free → ∃ c, env.cells.lookup y.1 = some c
theorem Qgf {sc : Scope} {env : Env} (h : Qct env sc.names) : closureFor sc env = pure (QbT env sc.names []) := by
 simp only [closureFor]
 rw [Qes (Qa3 env) sc.names [] (fun y hy cs => by
  obtain ⟨n, k⟩ := y
  unfold Qa3
  cases hk : (k == NameKind.free) with
  | false => simp only [hk, Bool.false_eq_true, if_false]
  | true =>
   obtain ⟨c, hc⟩ := h _ hy (by simpa using hk)
   have hc' : env.cells.lookup n = some c := hc
   simp only [hk, if_true, cellOf, hc']
   rfl)]
 rfl
theorem QdO {env : Env} : ∀ {l : List (Str × NameKind)} {cs : List (Str × Addr)} {y : Str} {c : Addr}, Qct env l → (QbT env l cs).lookup y = some c → env.cells.lookup y = some c ∨ cs.lookup y = some c
 | [], _, _, _, _, h => .inr h
 | (n, k) :: r, cs, y, c, hl, h => by
  have h : (QbT env r (Qa3 env (n, k) cs)).lookup y = some c := h
  have hr : Qct env r := fun z hz => hl z (List.mem_cons_of_mem _ hz)
  rcases QdO hr h with q | q
  ·exact .inl q
  ·unfold Qa3 at q
   by_cases e : (k == NameKind.free) = true
   ·rw [if_pos e] at q
    obtain ⟨c0, h0⟩ := hl (n, k) List.mem_cons_self (by simpa using e)
    have h0 : env.cells.lookup n = some c0 := h0
    rw [List.lookup_cons] at q
    cases e2 : (y == n) with
    | true =>
     rw [e2] at q
     have e3 : y = n := by simpa using e2
     subst e3
     left
     rw [h0] at q ⊢
     exact q
    | false =>
     rw [e2] at q
     exact .inr q
   ·rw [if_neg e] at q
    exact .inr q
theorem Qcp {env : Env} : ∀ {l : List (Str × NameKind)} {cs : List (Str × Addr)} {y : Str} {c : Addr}, env.cells.lookup y = some c → ((y, NameKind.free) ∈ l ∨ cs.lookup y = some c) → (QbT env l cs).lookup y = some c
 | [], _, _, _, _, h => by
  rcases h with h | h
  ·cases h
  ·exact h
 | (n, k) :: r, cs, y, c, hc, h => by
  show (QbT env r (Qa3 env (n, k) cs)).lookup y = some c
  refine Qcp hc ?_
  unfold Qa3
  by_cases e : (k == NameKind.free) = true
  ·rw [if_pos e]
   by_cases e2 : y = n
   ·subst e2
    right
    rw [List.lookup_cons]
    simp [hc]
   ·rcases h with h | h
    ·rcases List.mem_cons.mp h with q | q
     ·cases q; exact absurd rfl e2
     ·exact .inl q
    ·right
     rw [List.lookup_cons]
     have e3 : (y == n) = false := by simpa using e2
     rw [e3]
     exact h
  ·rw [if_neg e]
   rcases h with h | h
   ·rcases List.mem_cons.mp h with q | q
    ·cases q; exact absurd rfl e
    ·exact .inl q
   ·exact .inr h
theorem Qbo {env : Env} (hk : env.scope.kind = .function) : ∀ {names : List (Str × NameKind)} {y : Str}, names.lookup y = some .free → env.kindOf y = some .cell →
  (names.map fun (n, k) => if (k == NameKind.free && env.scope.kind == .function && env.kindOf n == some .cell) then (n, NameKind.cell) else (n, k)).lookup y = some .cell
 | [], _, h, _ => by simp at h
 | (n, k) :: r, y, h, hy => by
  have ih := @Qbo env hk r y
  show List.lookup y ((if (k == NameKind.free && env.scope.kind == .function && env.kindOf n == some .cell) = true then (n, NameKind.cell) else (n, k)) :: _) = _
  cases hx : y == n with
  | true =>
   simp only [List.lookup_cons, hx] at h
   have e3 : y = n := by simpa using hx
   subst e3
   cases h
   rw [if_pos (by rw [hk, hy]; rfl)]
   simp [List.lookup_cons]
  | false =>
   simp only [List.lookup_cons, hx] at h
   by_cases hc : (k == NameKind.free && env.scope.kind == .function && env.kindOf n == some .cell) = true
   ·rw [if_pos hc]; simp only [List.lookup_cons, hx]; exact ih h hy
   ·rw [if_neg hc]; simp only [List.lookup_cons, hx]; exact ih h hy
theorem Qam {env : Env} : ∀ {names : List (Str × NameKind)} {y : Str} {k' : NameKind},
  (names.map fun (n, k) => if (k == NameKind.free && env.scope.kind == .function && env.kindOf n == some .cell) then (n, NameKind.cell) else (n, k)).lookup y = some k' → names.lookup y = some k' ∨ names.lookup y = some .free
 | [], _, _, h => by simp at h
 | (n, k) :: r, y, k', h => by
  have h : List.lookup y ((if (k == NameKind.free && env.scope.kind == .function && env.kindOf n == some .cell) = true then (n, NameKind.cell) else (n, k)) :: r.map fun (n, k) => if (k == NameKind.free && env.scope.kind == .function && env.kindOf n == some .cell) then (n, NameKind.cell) else (n, k)) = some k' := h
  cases hx : y == n with
  | true =>
   simp only [List.lookup_cons, hx]
   by_cases hc : (k == NameKind.free && env.scope.kind == .function && env.kindOf n == some .cell) = true
   ·right
    have : (k == NameKind.free) = true := by
     simp only [Bool.and_eq_true] at hc
     exact hc.1.1
    have e : k = .free := by simpa using this
    rw [e]
   ·rw [if_neg hc] at h
    simp only [List.lookup_cons, hx] at h
    exact .inl h
  | false =>
   simp only [List.lookup_cons, hx]
   by_cases hc : (k == NameKind.free && env.scope.kind == .function && env.kindOf n == some .cell) = true
   ·rw [if_pos hc] at h; simp only [List.lookup_cons, hx] at h; exact Qam h
   ·rw [if_neg hc] at h; simp only [List.lookup_cons, hx] at h; exact Qam h
structure QW (osc : Scope) (oN : List Str) (sc : Scope) (x : Str) (N : List Str) (fr : List Nat) : Prop where
 kind : sc.kind = .function
 nocell : ∀ y ∈ sc.names, y.2 ≠ .cell
 names : ∀ y ∈ sc.names, y.2 = .local → sc.names.lookup y.1 = some .local
 free : ∀ y ∈ sc.names, y.2 = .free → osc.names.lookup y.1 = some .cell
 xl : sc.names.lookup x = some .local
 nd : (x :: N).Nodup
 ix : fr.map (fun i => oN[i]?) = N.map some
 fk : ∀ y ∈ N, sc.names.lookup y = some .free
def blk (X : Cx) (sc : Scope) (N : List Str) (C : Addr) (ex : List Addr) (s : Shared) (H : Hp) : Cx where
 prog := X.prog
 w := X.w
 K := X.K
 mg := X.mg
 base := X.base
 A := X.A
 N := N
 s₀ := s
 H₀ := H
 env := compEnvC sc (QbT X.env sc.names []) C X.env
 outer := X.stack
 stack := X.stack
 ex := ex
 fn := fun _ => false
 calm := X.calm
 pn := []
 xe := fun _ _ => False
section
variable {X : Cx} {pins : List (Addr × Obj)} {σ : St} {H : Hp} {s : Shared} {sc : Scope} {x : Str} {N : List Str} {fr : List Nat} {C : Addr} {ex : List Addr}
theorem Inv.cells (I : Inv X pins σ H s) (S : QW X.env.scope X.N sc x N fr) : Qct X.env sc.names := fun y hy hk => I.ok.has y.1 (.inl (S.free y hy hk))
theorem Inv.clos (I : Inv X pins σ H s) (S : QW X.env.scope X.N sc x N fr) {y : Str} {c : Addr} (h : (QbT X.env sc.names []).lookup y = some c) : X.env.cells.lookup y = some c := by
 rcases QdO (I.cells S) h with q | q
 ·exact q
 ·simp at q
theorem blk_ok (I : Inv X pins σ H s) (S : QW X.env.scope X.N sc x N fr) (hC : s.heap.objs.size ≤ C) (hf : ∀ b ∈ ex, Qe8 X pins H b) (hlt : ∀ b ∈ ex, b < s.heap.objs.size) : (blk X sc (x :: N) C ex s H).Ok where
 mod := I.ok.mod
 kind := S.kind
 glob := I.ok.glob
 blt := I.ok.blt
 above := hC
 inj := fun a b c h1 h2 => I.ok.inj a b c (I.clos S h1) (I.clos S h2)
 has := fun y hy => by
  have hfree : sc.names.lookup y = some .free := by
   rcases hy with hy | hy
   ·rcases Qam (env := X.env) (names := sc.names) hy with q | q
    ·exact absurd rfl (S.nocell _ (PySem.mem_of_lookup q))
    ·exact q
   ·rcases Qam (env := X.env) (names := sc.names) hy with q | q
    ·exact q
    ·exact q
  obtain ⟨c, hc⟩ := I.cells S (y, .free) (PySem.mem_of_lookup hfree) rfl
  exact ⟨c, Qcp hc (.inl (PySem.mem_of_lookup hfree))⟩
 cab := fun _ _ h => absurd (show false = true from h) Bool.false_ne_true
 hd := I.ok.hd
 frames := I.ok.frames
 stk := .inl rfl
 exf := fun b hb => ⟨Nat.ne_of_lt (Nat.lt_of_lt_of_le (hlt b hb) hC), fun y c h z => (hf b hb).2.2.2.2.1 y c (I.clos S h) z⟩
 bs := I.bs
 bsz := Nat.le_trans I.ok.bsz I.sz
 noex := fun b o e hb => by
  rcases (hf b hb).2.2.2.1 with z | z
  ·exact I.ok.noex b o e z
  ·exact absurd (Nat.lt_of_lt_of_le (Heap.lt_size e) (Nat.le_trans I.ok.bsz z)) (Nat.lt_irrefl _)
 exfs := fun b hb z => by
  rcases List.mem_cons.mp (I.stkSub b z) with q | q
  ·exact (hf b hb).2.1 q
  ·exact (hf b hb).2.2.1 q
 funs := I.stack
 frf := I.stkFree
def QbB (σ : St) (fr : List Nat) : St := fr.map fun i => (σ[i]?).join
theorem Qgt {i : Nat} {v : V} (h : (QbB σ fr)[i]? = some (some v)) : ∃ j, fr[i]? = some j ∧ σ[j]? = some (some v) := by
 unfold QbB at h
 rw [List.getElem?_map] at h
 cases e : fr[i]? with
 | none => rw [e] at h; cases h
 | some j =>
  rw [e] at h
  refine ⟨j, rfl, ?_⟩
  have h : (σ[j]?).join = some v := Option.some.inj h
  cases e2 : σ[j]? with
  | none => rw [e2] at h; cases h
  | some o => rw [e2] at h; have h : o = some v := h; rw [h]
theorem Qit (I : Inv X pins σ H s) (S : QW X.env.scope X.N sc x N fr) (hC : s.heap.objs.size ≤ C) (hf : ∀ b ∈ ex, Qe8 X pins H b) (hlt : ∀ b ∈ ex, b < s.heap.objs.size) {h' : Heap} {t' : Nat}
  (hn : ∃ m, h'.Ns C m) (k : ∀ b o, s.heap.get? b = some o → h'.get? b = some o) : Inv (blk X sc (x :: N) C ex s H) [] (none :: QbB σ fr) H { s with heap := h', toks := t' } := by
 obtain ⟨m, hn⟩ := hn
 have hlen : fr.length = N.length := by have := congrArg List.length S.ix; simpa using this
 refine ⟨blk_ok I S hC hf hlt, rfl, I.bare, Un.kept k, ⟨m, hn, fun i y v h1 h2 h3 => ?_⟩, fun y c h => ?_, I.hok.fresh hC, fun y c h => I.freeC y c (I.clos S h), fun p hp => absurd (show p ∈ ([] : List (Addr × Obj)) from hp) (by simp), I.hok.kept k, ?_⟩
 ·cases i with
  | zero => cases (show some (none : Option V) = some (some v) from h2)
  | succ i =>
   have h2 : (QbB σ fr)[i]? = some (some v) := h2
   have h1 : N[i]? = some y := h1
   obtain ⟨j, hj, hv⟩ := Qgt h2
   have e1 : (fr.map fun i => X.N[i]?)[i]? = (N.map some)[i]? := by rw [S.ix]
   rw [List.getElem?_map, List.getElem?_map, hj, h1] at e1
   have e1 : X.N[j]? = some y := Option.some.inj e1
   have hfree := S.fk y (List.mem_of_getElem? h1)
   have hcell : X.env.scope.names.lookup y = some .cell := S.free (y, .free) (PySem.mem_of_lookup hfree) rfl
   obtain ⟨m0, _, hl⟩ := I.loc
   obtain ⟨u, ru, l⟩ := hl j y v e1 hv (.inr (.inl hcell))
   refine ⟨u, ru, ?_⟩
   rcases l with ⟨q, _⟩ | ⟨_, c, hc, o, ho, hd⟩
   ·have q : X.env.scope.names.lookup y = some .local := q
    rw [hcell] at q
    cases q
   ·exact .inr ⟨.inl (Qbo I.ok.kind hfree hcell), c, Qcp hc (.inl (PySem.mem_of_lookup hfree)), o, k _ o ho, hd⟩
 ·obtain ⟨v, o, ho, hd⟩ := I.cell y c (I.clos S h)
  exact ⟨v, o, k _ o ho, hd⟩
 ·show (none :: QbB σ fr).length = (x :: N).length
  unfold QbB
  rw [List.length_cons, List.length_map, hlen, List.length_cons]
theorem Un.track {fs ex : List Addr} {H H' : Hp} {h h' : Heap} {D : Addr} {o : HO} (u : Un fs ex H H' h h') (hn : H' D = none) (hD : h.objs.size ≤ D) : Un fs ex H (upd H' D o) h h' where
 keep := u.keep
 slot := u.slot
 free := fun b ob e n hx => by rw [Qg (Nat.ne_of_lt (Nat.lt_of_lt_of_le (Heap.lt_size e) hD))]; exact u.free b ob e n hx
 there := u.there
 tups := fun b xs q => by rw [Qg (Qd (u.tups b xs q) hn)]; exact u.tups b xs q
 frzs := fun b ob xs q => by rw [Qg (Qd (u.frzs b ob xs q) hn)]; exact u.frzs b ob xs q
 tbls := fun b ps q => by
  obtain ⟨m, e⟩ := u.tbls b ps q
  exact ⟨m, by rw [Qg (Qd e hn)]; exact e⟩
theorem HOk.track {P : Program} {w : World} {H : Hp} {h : Heap} {D : Addr} {o : HO} (ok : HOk P w H h) (hn : H D = none) (new : ObjOk P w (upd H D o) h D o) : HOk P w (upd H D o) h := fun b u e => by
 by_cases hb : b = D
 ·subst hb; rw [Qb] at e; cases e; exact new
 ·rw [Qg hb] at e
  exact (ok b u e).stay (fun _ _ _ q => q) (fun c q => by rw [Qg (Qd q hn)]; exact q) fun c xs q => by rw [Qg (Qd q hn)]; exact q
end
section
variable {prog : Program} {w : World} {A : Around} {R : Result → Shared → Prop} {s : Shared}
abbrev NoE : Value → Shared → Prop := fun _ _ => False
theorem noE {α : Type} {M : Model} {A : Around} {t : Sem α} {Q : α → Shared → Prop} {E : Value → Shared → Prop} {s : Shared} (h : wpAny M A t Q NoE s) : wpAny M A t Q E s := wpAny_mono h (fun _ _ q => q) fun _ _ z => False.elim z
theorem QfI {elt target iter : Expr} {ifs : List Expr} {scope : Scope} {pos : Pos} {it acc : Value} {env : Env} (I : Nat → Shared → Prop)
  (turn : ∀ n s, I n s → wpAny (model prog w) A (pyNext it) (fun r s₁ => match r with
   | none => R (.ok .next) s₁
   | some v => wpAny (model prog w) A (letOwnedTupleGo target it v) (fun _ s₁ => wpAny (model prog w) A (assign target env v) (fun _ s₂ =>
     wpAny (model prog w) A (forIn ifs true fun c r => if r = true then do let ok ← isTrue c env (eval c env); pure (ForInStep.yield ok) else pure (ForInStep.yield r)) (fun ok s₃ =>
      if ok = true then wpAny (model prog w) A (eval elt env) (fun x s₄ =>
       wpAny (model prog w) A (call (.builtin "list.append") [acc, x]) (fun _ s₅ => ∃ m, m < n ∧ I m s₅) NoE s₄) NoE s₃
      else ∃ m, m < n ∧ I m s₃) NoE s₂) NoE s₁) NoE s₁) NoE s)
  (n : Nat) (h : I n s) :
  codeAny (model prog w) A (.compLoop (.ListComp elt [⟨target, iter, ifs, 0⟩] scope pos) 0 it acc env) R s := by
 refine codeAny_loop rfl I (fun n s hI => ?_) n h
 show wpAny _ A ((compTurn (.ListComp elt [⟨target, iter, ifs, 0⟩] scope pos) 0 it acc env).onRaise (fun x => do noteFrame x env; theTreesLotGoes x)) _ _ s
 refine wpAny_noted ?_
 rw [compTurn_list]
 refine noE (wpAny_bind (wpAny_standAt (wpAny_bind (wpAny_mono (turn n s hI) (fun r s₁ h₁ => ?_) fun _ _ h' => h'))))
 cases r with
 | none => exact wpAny_pure h₁
 | some v =>
  refine wpAny_bind (thn h₁ fun _ s₂ h₂ => wpAny_bind (thn h₂ fun _ s₃ h₃ => wpAny_bind (thn h₃ fun ok s₄ h₄ => ?_)))
  cases ok with
  | false => exact wpAny_pure ⟨rfl, h₄⟩
  | true => exact wpAny_bind (wpAny_bind (thn h₄ fun x s₅ h₅ => wpAny_bind (thn h₅ fun _ s₆ h₆ => wpAny_pure (wpAny_pure ⟨rfl, h₆⟩))))
end
def Qj3 (X : Cx) (ifs : List Expr) (t : TT) : Prop :=
 ∀ (pins : List (Addr × Obj)) (s : Shared) (σ : St) (H : Hp) (Q : Bool → Hp → Prop), Inv X pins σ H s → t σ H Q →
  wpAny (model X.prog X.w) X.A (forIn ifs true fun c r => if r = true then do let ok ← isTrue c X.env (eval c X.env); pure (ForInStep.yield ok) else pure (ForInStep.yield r)) (TP X pins σ Q) X.xe s
def Qb3 : TT := fun _ H Q => Q true H
theorem ZW {X : Cx} : Qj3 X [] Qb3 := fun _ _ _ H _ I h => wpAny_tests_nil ⟨H, I, h⟩
theorem QgA {X : Cx} {c : Expr} {t : TT} (h : PT X c t) : Qj3 X [c] t := fun pins s σ H Q I hw => wpAny_tests_one (h pins s σ H Q I hw)
def Qgk (fr : List Nat) (tc : TT) (te : TE) (σ : St) (Q : VK) : It → Hp → Prop := fun J H1 => ∃ W : Nat → Nat → List V → Hp → Prop, (∃ m, W 0 m [] H1) ∧ ∀ i m ys H, W i m ys H →
 (J.stop i H ∧ ys.length ≤ sizeLine ∧ ∀ p, H p = none → Q (.ref p) (upd H p (.lst ys))) ∨
 (J.go i H ∧ ys.length < sizeLine ∧ ∃ N : List V → Hp → Prop, (∀ ys' H', N ys' H' → ∃ m', m' < m ∧ W (i + 1) m' ys' H') ∧ ∀ v H', J.yld i H v H' → tc (some v :: QbB σ fr) H' fun b H2 =>
  if b = true then te (some v :: QbB σ fr) H2 fun y H3 => N (ys ++ [y]) H3 else N ys H2)
def Qjo (wi : TI) (fr : List Nat) (tc : TT) (te : TE) : TE := fun σ H Q => wi σ H (Qgk fr tc te σ Q)
section
variable {X : Cx} {elt iter : Expr} {x : Str} {px pos : Pos} {ifs : List Expr} {sc : Scope} {N : List Str} {fr : List Nat} {wi : TI} {tc : TT} {te : TE}
abbrev lob (its : List Value) (n : Nat) : Obj := { cls := .type "list", data := .seq its.toArray n }
theorem QfJ (S : QW X.env.scope X.N sc x N fr) (hcalm : X.calm = true) (hc : ∀ C ex s H, Qj3 (blk X sc (x :: N) C ex s H) ifs tc) (he : ∀ C ex s H, PE (blk X sc (x :: N) C ex s H) elt te)
  {pins : List (Addr × Obj)} {σ : St} {H : Hp} {s : Shared} {E : Value → Shared → Prop} {it : Addr} {fp : List Addr} {tn : Nat → Heap → Prop} {J : It} {Q : VK} {RR : Value → Addr → Result → Shared → Prop}
  (I : Inv X pins σ H s) (T : Qjk X.prog X.w X.K (.Name x px) J fp it tn) (st : tn 0 s.heap) (f2 : ∀ b ∈ fp, Qe8 X pins H b)
  (hW : ∃ W : Nat → Nat → List V → Hp → Prop, (∃ m, W 0 m [] H) ∧ ∀ i m ys H, W i m ys H →
   (J.stop i H ∧ ys.length ≤ sizeLine ∧ ∀ p, H p = none → Q (.ref p) (upd H p (.lst ys))) ∨
   (J.go i H ∧ ys.length < sizeLine ∧ ∃ N : List V → Hp → Prop, (∀ ys' H', N ys' H' → ∃ m', m' < m ∧ W (i + 1) m' ys' H') ∧ ∀ v H', J.yld i H v H' → tc (some v :: QbB σ fr) H' fun b H2 =>
    if b = true then te (some v :: QbB σ fr) H2 fun y H3 => N (ys ++ [y]) H3 else N ys H2))
  (hRR : ∀ (D C : Addr) (H' : Hp) (s' : Shared), Inv X pins σ H' s' → (∃ o, s'.heap.get? C = some o ∧ (∃ m, s'.heap.Ns C m) ∧ ∀ v, o.data ≠ .cell v) → Qe8 X pins H' C → Q (.ref D) H' → RR (.ref D) C (.ok .next) s') :
  wpAny (model X.prog X.w) X.A (newList []) (fun acc s₃ => wpAny (model X.prog X.w) X.A (newFunctionEnv sc X.env.globals (QbT X.env sc.names []) [] X.env.qual none .none (some X.env)) (fun cenv s₄ =>
   codeAny (model X.prog X.w) X.A (.compStart (.ListComp elt [⟨.Name x px, iter, ifs, 0⟩] sc pos) 0 (.ref it) acc { cenv with scope := relabel sc X.env }) (RR acc cenv.locals) s₄) E s₃) E s := by
 obtain ⟨W, ⟨m0, w0⟩, turn⟩ := hW
 have hlt : ∀ b ∈ fp, b < s.heap.objs.size := fun b hb => let ⟨o, e, _⟩ := T.obj _ _ st b hb; Heap.lt_size e
 refine wpAny_newObj_type (wpAny_newFunctionEnv S.nocell (by intro y hy; simp at hy) (fun h₁ hns₁ hsb₁ => ?_) S.kind)
 dsimp only at hns₁ hsb₁ ⊢
 generalize hH2 : s.heap.push { cls := .type "list", dict := none, data := .seq ([] : List Value).toArray } = H2 at hns₁ hsb₁ ⊢
 have hC : H2.objs.size = s.heap.objs.size + 1 := by rw [← hH2, Heap.size_push]
 have hDC : s.heap.objs.size ≠ H2.objs.size := by rw [hC]; exact Nat.ne_of_lt (Nat.lt_succ_self _)
 have hCle : s.heap.objs.size ≤ H2.objs.size := by rw [hC]; exact Nat.le_succ _
 have old : ∀ b o, s.heap.get? b = some o → h₁.get? b = some o := fun b o e =>
  hsb₁.extBut b o (by rw [hC]; exact Nat.ne_of_lt (Nat.lt_succ_of_lt (Heap.lt_size e))) (Heap.get?_push_of_some _ (hH2 ▸ Heap.get?_push_of_some _ e))
 have eD : h₁.get? s.heap.objs.size = some (lob [] 0) := hsb₁.extBut _ _ hDC (Heap.get?_push_of_some _ (hH2 ▸ Heap.get?_push_size _ rfl))
 have fpX : ∀ {H' : Hp} {o : Obj}, (∀ b ∈ fp, H' b = none) → ∀ b ∈ fp, Qe8 (blk X sc (x :: N) H2.objs.size fp s H) [(s.heap.objs.size, o)] H' b := fun {H' o} hn b hb => by
  refine ⟨hn b hb, Nat.ne_of_lt (Nat.lt_of_lt_of_le (hlt b hb) hCle), fun z => ?_, .inl hb, fun y c h => (f2 b hb).2.2.2.2.1 y c (I.clos S h), fun p hp z => ?_⟩
  ·rcases List.mem_cons.mp (I.stkSub b z) with q | q
   ·exact (f2 b hb).2.1 q
   ·exact (f2 b hb).2.2.1 q
  ·have hp : p = (s.heap.objs.size, o) := by simpa using (show p ∈ [] ++ [(s.heap.objs.size, o)] from hp)
   subst hp
   exact absurd (hlt b hb) (by rw [← z]; exact Nat.lt_irrefl _)
 have pinD : ∀ {pl : List (Addr × Obj)} {σ' : St} {H' : Hp} {s' : Shared} {its : List Value} {n : Nat}, Inv (blk X sc (x :: N) H2.objs.size fp s H) pl σ' H' s' → s'.heap.get? s.heap.objs.size = some (lob its n) → H' s.heap.objs.size = none →
   Inv (blk X sc (x :: N) H2.objs.size fp s H) [(s.heap.objs.size, lob its n)] σ' H' s' := fun {pl σ' H' s' its n} J' e hn => by
  refine J'.pins_of fun p hp => ?_
  have hp : p = (s.heap.objs.size, lob its n) := by simpa using hp
  subst hp
  refine ⟨e, hn, hDC, fun z => ?_, fun v z => by cases z⟩
  obtain ⟨_, o, ho, _⟩ := I.stack.mem z
  exact absurd (Heap.lt_size ho) (Nat.lt_irrefl _)
 have IX : Inv (blk X sc (x :: N) H2.objs.size fp s H) [(s.heap.objs.size, lob [] 0)] (none :: QbB σ fr) H { s with heap := h₁, toks := s.toks + ([] : List (Str × Value)).length } :=
  pinD (Qit I S hCle f2 hlt ⟨_, hns₁⟩ old) eD (I.hok.fresh (Nat.le_refl _))
 have st₁ : tn 0 h₁ := T.keep _ _ _ st fun b _ o e => old b o e
 have loop : ∀ s₃ : Shared, s₃ = { s with heap := h₁, toks := s.toks + ([] : List (Str × Value)).length } →
   codeAny (model X.prog X.w) X.A (.compLoop (.ListComp elt [⟨.Name x px, iter, ifs, 0⟩] sc pos) 0 (.ref it) (.ref s.heap.objs.size) (blk X sc (x :: N) H2.objs.size fp s H).env)
    (RR (.ref s.heap.objs.size) H2.objs.size) s₃ := by
  rintro s₃ rfl
  refine QfI (fun n s' => ∃ i v0 its c ys H', Inv (blk X sc (x :: N) H2.objs.size fp s H) [(s.heap.objs.size, lob its c)] (v0 :: QbB σ fr) H' s' ∧ Vals ys its ∧ tn i s'.heap ∧ (∀ b ∈ fp, H' b = none) ∧ W i n ys H') ?_ m0
   ⟨0, none, [], 0, [], H, IX, .nil, st₁, fun b hb => (f2 b hb).1, w0⟩
  rintro n s4 ⟨i, v0, its, c, ys, H4, I4, rv, st4, fr4, w4⟩
  have pD := I4.pin (s.heap.objs.size, lob its c) (List.mem_append_right _ (List.mem_singleton.mpr rfl))
  rcases turn i n ys H4 w4 with ⟨stop, hz, fin⟩ | ⟨go, hz, NN, hNN, step⟩
  ·refine thn (T.done (blk X sc (x :: N) H2.objs.size fp s H) rfl rfl rfl hcalm i _ s4 _ H4 NoE I4 (fpX fr4) st4 stop) fun r s5 ⟨hr, I5⟩ => ?_
   subst hr
   obtain ⟨e5, n5, _⟩ := I5.pin (s.heap.objs.size, lob its c) (List.mem_append_right _ (List.mem_singleton.mpr rfl))
   have e5 : s5.heap.get? s.heap.objs.size = some (lob its c) := e5
   have n5 : H4 s.heap.objs.size = none := n5
   have IF : Inv X pins σ (upd H4 s.heap.objs.size (.lst ys)) s5 := I.call' (ch := fp) I5.os (Un.track I5.base n5 (Nat.le_refl _)) (HOk.track I5.hok n5 ⟨hz, its, c, rv, e5⟩) I5.bare
    fun b hb => ⟨(f2 b hb).2.2.2.1, (f2 b hb).2.1, (f2 b hb).2.2.2.2.1, (f2 b hb).2.2.2.2.2⟩
   obtain ⟨mC, nsC, _⟩ := I5.loc
   obtain ⟨oC, esC, epC, hoC, hdC, _⟩ := id nsC
   refine hRR _ _ _ s5 IF ⟨oC, hoC, ⟨mC, nsC⟩, fun v z => by rw [hdC] at z; cases z⟩ (I.fpOk hCle ?_) (fin _ n5)
   rw [Qg (Ne.symm hDC)]
   exact I5.free
  ·refine thn (T.item (blk X sc (x :: N) H2.objs.size fp s H) rfl rfl rfl hcalm i _ s4 _ H4 NoE I4 (fpX fr4) st4 go) fun r s5 ⟨u, hr, h5⟩ => ?_
   subst hr
   refine thn h5 fun _ s6 ⟨v, H6, I6, r6, y6, st6, fr6⟩ => ?_
   have I6' := I6.pinned (fpX fr6) (T.obj _ _ st6)
   refine wpAny_assign_Name (Qb4 (i := 0) I6' S.nd rfl (.inl (lookup_relabel_local S.xl)) r6 (fun s7 I7 => ?_) (.inr (lookup_relabel_local S.xl)))
   have I7 : Inv (blk X sc (x :: N) H2.objs.size fp s H) ([(s.heap.objs.size, lob its c)] ++ Qds fp s6.heap) (some v :: QbB σ fr) H6 s7 := I7
   refine thn (hc _ _ _ _ _ s7 _ H6 _ I7 (step v H6 y6)) fun b s8 ⟨H8, I8, q8⟩ => ?_
   have atFp : ∀ {σ' : St} {H' : Hp} {s' : Shared}, Inv (blk X sc (x :: N) H2.objs.size fp s H) ([(s.heap.objs.size, lob its c)] ++ Qds fp s6.heap) σ' H' s' → tn (i + 1) s'.heap ∧ ∀ b ∈ fp, H' b = none := fun {σ' H' s'} J' => by
    refine ⟨T.keep _ _ _ st6 fun b hb o e => (J'.pin (b, o) (List.mem_append_right _ (List.mem_append_right _ (QaA hb e)))).1, fun b hb => ?_⟩
    obtain ⟨o, e, _⟩ := T.obj _ _ st6 b hb
    exact (J'.pin (b, o) (List.mem_append_right _ (List.mem_append_right _ (QaA hb e)))).2.1
   cases b with
   | false =>
    have q8 : NN ys H8 := q8
    obtain ⟨m', hm, w8⟩ := hNN _ _ q8
    obtain ⟨a1, a2⟩ := atFp I8
    exact ⟨m', hm, i + 1, some v, its, c, ys, H8, I8.unpinned, rv, a1, a2, w8⟩
   | true =>
    refine thn (he _ _ _ _ _ s8 _ H8 _ I8 q8) fun y s9 ⟨yv, H9, I9, r9, q9⟩ => ?_
    obtain ⟨m', hm, w9⟩ := hNN _ _ q9
    obtain ⟨e9, n9, _⟩ := I9.pin (s.heap.objs.size, lob its c) (List.mem_append_right _ (List.mem_append_left _ (List.mem_singleton.mpr rfl)))
    have e9 : s9.heap.get? s.heap.objs.size = some (lob its c) := e9
    have n9 : H9 s.heap.objs.size = none := n9
    obtain ⟨a1, a2⟩ := atFp I9
    have hl : ys.length = its.length := rv.length
    refine call_meets F.slot_list_append ⟨_, e9, rfl⟩ F.entry_list_append (F.args_list_append_2 _ _) (PySem.list_append s.heap.objs.size its.toArray c y (by rw [List.size_toArray]; omega)) ⟨e9, ?_⟩
    have q := PySem.IsL.update e9 (·.push y)
    have hpush : its.toArray.push y = (its ++ [y]).toArray := by simp
    rw [hpush] at q
    have kO : ∀ b o, b ≠ s.heap.objs.size → s9.heap.get? b = some o → (s9.heap.update s.heap.objs.size (Obj.mapSeq (·.push y))).get? b = some o := fun b o hb e => (Heap.get?_update_other s9.heap _ (Ne.symm hb)).trans e
    have J1 : Inv (blk X sc (x :: N) H2.objs.size fp s H) [] (some v :: QbB σ fr) H9 s9 := I9.pins_of fun p hp => absurd hp (by simp)
    have J2 := J1.turned (it := s.heap.objs.size) (t' := s9.toks) kO n9 hDC (.inr (Nat.le_refl _)) (fun z cc h e => by
     obtain ⟨vv, o, ho, _⟩ := I.cell z cc (I.clos S h)
     exact absurd (Heap.lt_size ho) (by rw [e]; exact Nat.lt_irrefl _)) (fun p hp => absurd (show p ∈ ([] : List (Addr × Obj)) from hp) (by simp))
    refine ⟨m', hm, i + 1, some v, its ++ [y], _, ys ++ [yv], H9, pinD J2 q n9, rv.append (.cons r9 .nil), T.keep _ _ _ a1 fun b hb o e => kO b o (Nat.ne_of_lt (hlt b hb)) e, a2, w9⟩
 exact codeAny_compStart_list (loop _ rfl) (T.self _ 0 _ _ _ st₁ (loop _ rfl))
theorem Qas (S : QW X.env.scope X.N sc x N fr) (hcalm : X.calm = true) (hi : PI X (.Name x px) iter wi) (hc : ∀ C ex s H, Qj3 (blk X sc (x :: N) C ex s H) ifs tc) (he : ∀ C ex s H, PE (blk X sc (x :: N) C ex s H) elt te)
  (hs : ∀ v, foldedSetIterable iter X.env v = pure v := by intro _; rfl) : PE X (.ListComp elt [⟨.Name x px, iter, ifs, 0⟩] sc pos) (Qjo wi fr tc te) := by
 intro pins s σ H Q I h
 rw [eval_ListComp]
 refine wpAny_comprehension_free (use := none) rfl hs (Qgf (I.cells S)) S.kind S.names (thn (hi pins s σ H _ I h) fun v s1 h1 => thn h1 fun itv s2 h2 => ?_)
 obtain ⟨it, fp, tn, J, H2, e, I2, T, st2, f2, hW⟩ := h2
 subst e
 refine QfJ (RR := fun acc C => compPost (model X.prog X.w) X.A X.xe none (EP X pins σ Q) acc C) S hcalm hc he I2 T st2 f2 hW fun D C H' s' I' ⟨o, ho, ⟨m, hn⟩, hd⟩ fC q => ?_
 obtain ⟨f0, f1, f3, f4, f5, f6⟩ := fC
 exact ⟨m, hn, fun h' hsb => ⟨.ref D, H', I'.turned (t' := s'.toks) (fun b ob hb e => (hsb.2 b hb).trans e) f0 f1 f4 f5 f6, rfl, q⟩⟩
theorem Qem {i : Nat} {y : Str} {py spos : Pos} (S : QW X.env.scope X.N sc x N fr) (hcalm : X.calm = true) (hN : X.N.Nodup) (hi' : X.N[i]? = some y) (hy : Loc X.env.scope y) (hi : PI X (.Name x px) iter wi)
  (hc : ∀ C ex s H, Qj3 (blk X sc (x :: N) C ex s H) ifs tc) (he : ∀ C ex s H, PE (blk X sc (x :: N) C ex s H) elt te)
  (hsw : swapsWith (.ListComp elt [⟨.Name x px, iter, ifs, 0⟩] sc pos) (some (.Name y py)) spos.line X.env = pure true := by rfl)
  (hf : X.fn y = true ∨ X.env.scope.names.lookup y = some .local := by first | exact .inl rfl | exact .inr rfl | assumption)
  (hs : ∀ v, foldedSetIterable iter X.env v = pure v := by intro _; rfl) : PS X (.Assign [.Name y py] (.ListComp elt [⟨.Name x px, iter, ifs, 0⟩] sc pos) spos) (tAsg (Qjo wi fr tc te) (QiT i)) := by
 intro pins s σ H D I h
 rw [exec_Assign_Name_used _ _ _ _ hsw]
 refine wpAny_bind (wpAny_standAt (wpAny_bind ?_))
 show wpAny _ X.A (do let _ ← comprehension (.ListComp elt [⟨.Name x px, iter, ifs, 0⟩] sc pos) sc X.env _ (newList []) false (eval iter X.env) (some (assign (.Name y py) X.env))) _ _ s
 refine wpAny_bind (wpAny_mono (wpAny_comprehension_free (use := some (assign (.Name y py) X.env)) (Q := fun _ s' => SP X pins D .next s') rfl hs (Qgf (I.cells S)) S.kind S.names
  (thn (hi pins s σ H _ I h) fun v s1 h1 => thn h1 fun itv s2 h2 => ?_)) (fun _ s' hq => wpAny_pure (wpAny_pure hq)) fun _ _ e => e)
 obtain ⟨it, fp, tn, J, H2, e, I2, T, st2, f2, hW⟩ := h2
 subst e
 refine QfJ (RR := fun acc C => compPost (model X.prog X.w) X.A X.xe (some (assign (.Name y py) X.env)) (fun _ s' => SP X pins D .next s') acc C) (Q := fun v H1 => QiT i v σ H1 D.nx) S hcalm hc he I2 T st2 f2 hW fun A C H' s' I' ⟨o, ho, ⟨m, hn⟩, hd⟩ fC q => ?_
 obtain ⟨f0, f1, f3, f4, f5, f6⟩ := fC
 have IP : Inv X (pins ++ [(C, o)]) σ H' s' := I'.pins_of fun p hp => by
  rcases List.mem_append.mp hp with z | z
  ·exact I'.pin p (List.mem_append_right _ z)
  ·have z : p = (C, o) := by simpa using z
   subst z
   exact ⟨ho, f0, f1, f3, hd⟩
 show wpAny _ X.A (assign (.Name y py) X.env (.ref A)) _ _ s'
 refine wpAny_assign_Name (Qb4 (v := .ref A) IP hN hi' hy rfl (fun s5 I5 => ?_) hf)
 have e5 := (I5.pin (C, o) (List.mem_append_right _ (List.mem_append_right _ (List.mem_singleton.mpr rfl)))).1
 refine ⟨m, hn.at' fun ob e => ?_, fun h' hsb => ⟨_, H', I5.unpinned.turned (t' := s5.toks) (fun b ob hb e => (hsb.2 b hb).trans e) f0 f1 f4 f5 f6, q⟩⟩
 rw [ho] at e
 cases e
 exact e5
end
theorem QaB {lo : Int} {n : Nat} {tc : TT} {te : TE} {σ : St} {fr : List Nat} {H : Hp} {Q : VK} (Pv : Nat → List V → Hp → Prop) (h0 : Pv 0 [] H) (hz : ∀ i ys H, Pv i ys H → ys.length ≤ i) (hn : n ≤ sizeLine)
  (hs : ∀ (i : Nat) (ys : List V) (H : Hp), i < n → Pv i ys H → tc (some (.int (lo + i)) :: QbB σ fr) H fun b H2 => if b = true then te (some (.int (lo + i)) :: QbB σ fr) H2 fun y H3 => Pv (i + 1) (ys ++ [y]) H3 else Pv (i + 1) ys H2)
  (hd : ∀ ys H, Pv n ys H → ∀ p, H p = none → Q (.ref p) (upd H p (.lst ys))) : Qgk fr tc te σ Q (Itr lo n) H := by
 refine ⟨fun i m ys H => m = n - i ∧ i ≤ n ∧ Pv i ys H, ⟨n, by simp, Nat.zero_le _, h0⟩, ?_⟩
 rintro i m ys H ⟨rfl, hi, p⟩
 have hl := hz i ys H p
 by_cases hlt : i < n
 ·refine .inr ⟨hlt, by omega, Pv (i + 1), fun ys' H' q => ⟨n - (i + 1), by omega, rfl, hlt, q⟩, fun v H' y => ?_⟩
  obtain ⟨e, y⟩ := y
  subst e y
  exact hs i ys _ hlt p
 ·have e : i = n := by omega
  subst e
  exact .inl ⟨Nat.le_refl _, by omega, hd ys H p⟩
theorem QaT {K : PySem.W.Frag} {a : Addr} {xs : List V} {tc : TT} {te : TE} {σ : St} {fr : List Nat} {H : Hp} {Q : VK} (Pv : Nat → List V → Hp → Prop) (h0 : Pv 0 [] H) (hz : ∀ i ys H, Pv i ys H → ys.length ≤ i) (hn : xs.length ≤ sizeLine)
  (hl : ∀ i ys H, i ≤ xs.length → Pv i ys H → SqL K H a xs)
  (hs : ∀ (i : Nat) (x : V) (ys : List V) (H : Hp), xs[i]? = some x → Pv i ys H → tc (some x :: QbB σ fr) H fun b H2 => if b = true then te (some x :: QbB σ fr) H2 fun y H3 => Pv (i + 1) (ys ++ [y]) H3 else Pv (i + 1) ys H2)
  (hd : ∀ ys H, Pv xs.length ys H → ∀ p, H p = none → Q (.ref p) (upd H p (.lst ys))) : Qgk fr tc te σ Q (Itl K a) H := by
 refine ⟨fun i m ys H => m = xs.length - i ∧ i ≤ xs.length ∧ Pv i ys H, ⟨xs.length, by simp, Nat.zero_le _, h0⟩, ?_⟩
 rintro i m ys H ⟨rfl, hi, p⟩
 have q0 := hl i ys H hi p
 have hl := hz i ys H p
 by_cases hlt : i < xs.length
 ·refine .inr ⟨⟨xs, xs[i], q0, by simp [hlt]⟩, by omega, Pv (i + 1), fun ys' H' q => ⟨xs.length - (i + 1), by omega, rfl, hlt, q⟩, fun v H' y => ?_⟩
  obtain ⟨e, y⟩ := y
  subst e
  exact hs i v ys _ (y xs q0) p
 ·have e : i = xs.length := by omega
  subst e
  exact .inl ⟨⟨xs, q0, Nat.le_refl _⟩, by omega, hd ys H p⟩
end L2
namespace L2
open PySem PySem.Spec PyProof.Rows
section
variable {X : Cx} {pins : List (Addr × Obj)} {σ : St} {H : Hp} {s : Shared}
theorem Inv.turned2 {e it : Addr} {h' : Heap} {t' : Nat} {o : HO} (I : Inv X pins σ H s) (hf : ∀ b ∈ [e, it], Qe8 X pins H b)
  (k : ∀ b ob, b ≠ e → b ≠ it → s.heap.get? b = some ob → h'.get? b = some ob) (new : ObjOk X.prog X.w (upd H s.heap.objs.size o) h' s.heap.objs.size o) :
  Inv X pins σ (upd H s.heap.objs.size o) { s with heap := h', toks := t' } := by
 obtain ⟨e0, e1, _, e3, e4, e5⟩ := hf e (by simp)
 obtain ⟨i0, i1, _, i3, i4, i5⟩ := hf it (by simp)
 have ne : ∀ b ob, s.heap.get? b = some ob → b ≠ s.heap.objs.size := fun b ob q => Nat.ne_of_lt (Heap.lt_size q)
 have hn : H s.heap.objs.size = none := I.hok.fresh (Nat.le_refl _)
 have notin : ∀ b, b ∉ [e, it] → b ≠ e ∧ b ≠ it := fun b hb => ⟨fun z => hb (by simp [z]), fun z => hb (by simp [z])⟩
 refine I.step (g' := s.gens) (d' := s.drawn) (ch := [e, it]) (fun b hb => ?_) (fun b ob _ _ hc q _ => k b ob (notin b hc).1 (notin b hc).2 q) (fun b ob _ _ hc q _ => ⟨ob.slots, k b ob (notin b hc).1 (notin b hc).2 q⟩)
  (fun b ob _ q n => by rw [Qg (ne b ob q)]; exact n) (fun b ob hc q => ⟨ob, k b ob (notin b hc).1 (notin b hc).2 q⟩) (fun b xs q => by rw [Qg (Qd q hn)]; exact q)
  (fun b ob u q => by rw [Qg (Qd q hn)]; exact q) (fun b ps q => ⟨#[], by rw [Qg (Qd q hn), q]; simp⟩) (fun m hm => ?_) (fun b u q => ?_) I.bare
 ·rcases List.mem_cons.mp hb with z | z
  ·subst z; exact ⟨e3, e1, e4, e5⟩
  ·have z : b = it := by simpa using z
   subst z; exact ⟨i3, i1, i4, i5⟩
 ·obtain ⟨ob, es, ep, ho, r⟩ := hm
  exact ⟨ob, es, ep, k _ ob (Ne.symm e1) (Ne.symm i1) ho, r⟩
 ·by_cases hb : b = s.heap.objs.size
  ·subst hb; rw [Qb] at q; cases q; exact new
  ·rw [Qg hb] at q
   have nfp : ∀ c v, H c = some v → c ≠ e ∧ c ≠ it := fun c v z => ⟨Qd z e0, Qd z i0⟩
   refine (I.hok b u q).stay (fun c v hc z => ?_) (fun c z => by rw [Qg (Qd z hn)]; exact z) fun c xs z => by rw [Qg (Qd z hn)]; exact z
   rcases hc with y | y
   ·subst y; exact k _ v (nfp _ _ q).1 (nfp _ _ q).2 z
   ·exact k _ v (nfp _ _ y).1 (nfp _ _ y).2 z
end
section
variable {P : Program} {w : World} {H : Hp} {h : Heap} {a : Addr} {o : HO}
theorem ObjOk.has (x : ObjOk P w H h a o) : ∃ ob, h.get? a = some ob := by
 cases o with
 | lst xs => obtain ⟨_, _, _, _, e⟩ := x; exact ⟨_, e⟩
 | tup xs => obtain ⟨_, _, _, ob, e, _⟩ := x; exact ⟨_, e⟩
 | dK kvs => obtain ⟨_, _, _, _, ob, _, _, e, _⟩ := x; exact ⟨_, e⟩
 | dT kvs => obtain ⟨_, _, _, _, ob, _, _, e, _⟩ := x; exact ⟨_, e⟩
 | set S n => obtain ⟨ob, _, _, _, e, _⟩ := x; exact ⟨_, e⟩
 | ins C dx fs => obtain ⟨_, _, _, e, _⟩ := x; exact ⟨_, e⟩
 | own y => exact x
 | xd fs => obtain ⟨_, ⟨_, _, _, e, _⟩, _⟩ := x; exact ⟨_, e⟩
 | rng lo hi => obtain ⟨_, _, _, e⟩ := x; exact ⟨_, e⟩
 | frz ob u => obtain ⟨e, _⟩ := x; exact ⟨_, e⟩
 | tbl ps => exact ⟨_, x⟩
 | met f y => exact ⟨_, x⟩
 | ext φ => obtain ⟨_, e, _⟩ := x; exact e
theorem HOk.freeAt (x : HOk P w H h) (e : h.get? a = none) : H a = none := by
 cases q : H a with
 | none => rfl
 | some u =>
  obtain ⟨ob, z⟩ := (x a u q).has
  rw [z] at e; cases e
end
section
variable {X : Cx} {pins : List (Addr × Obj)} {σ : St} {H : Hp} {s : Shared}
theorem Inv.laidN {a : Addr} {o : HO} {t' : Nat} {h' : Heap} (I : Inv X pins σ H s) (k : ∀ b u, s.heap.get? b = some u → h'.get? b = some u) (ha : s.heap.get? a = none) (new : ObjOk X.prog X.w (upd H a o) h' a o) :
  Inv X pins σ (upd H a o) { s with heap := h', toks := t' } := by
 have hn := I.hok.freeAt ha
 have ne : ∀ b u, s.heap.get? b = some u → b ≠ a := fun b u q z => by rw [z, ha] at q; cases q
 refine I.un ⟨fun b u q _ _ _ => k b u q, fun b u q _ _ _ => ⟨u.slots, k b u q⟩, fun b u q n _ => by rw [Qg (ne b u q)]; exact n, fun b u q _ => ⟨u, k b u q⟩, fun b xs q => by rw [Qg (Qd q hn)]; exact q,
  fun b u xs q => by rw [Qg (Qd q hn)]; exact q, fun b ps q => ⟨#[], by rw [Qg (Qd q hn), q]; simp⟩⟩ fun b u q => ?_
 by_cases hb : b = a
 ·subst hb; rw [Qb] at q; cases q; exact new
 ·rw [Qg hb] at q
  exact (I.hok b u q).stay (fun c v _ z => k c v z) (fun c z => by rw [Qg (Qd z hn)]; exact z) fun c xs z => by rw [Qg (Qd z hn)]; exact z
end
def Ite (a : Addr) : It :=
  ⟨fun i H => ∃ xs x, H a = some (.lst xs) ∧ xs[i]? = some x,
   fun i H v H' => ∃ p x, H p = none ∧ v = .ref p ∧ H' = upd H p (.tup [.int (i : Int), x]) ∧ ∀ xs, H a = some (.lst xs) → xs[i]? = some x,
   fun i H => ∃ xs, H a = some (.lst xs) ∧ xs.length ≤ i⟩
theorem Qhn {P : Program} {w : World} {K : PySem.W.Frag} {elts : List Expr} {x1} {pos : Pos} (a e it : Addr) (hne : e ≠ it) :
  Qjk P w K (.Tuple elts x1 pos) (Ite a) [e, it] e (fun i h => ∃ old, IsEnum h e it ((i : Nat) : Int) old ∧ h.IsListIter it a i) where
 mem := by simp
 obj := fun i h st b hb => by
  obtain ⟨old, he, o, ho, hc, hd⟩ := st
  rcases List.mem_cons.mp hb with z | z
  ·subst z; exact ⟨_, he, fun v z => by cases z⟩
  ·have z : b = it := by simpa using z
   subst z; exact ⟨o, ho, fun v z => by rw [hd] at z; cases z⟩
 keep := fun i h h' ⟨old, he, hit⟩ k => ⟨old, k e (by simp) _ he, hit.at fun o q => k it (by simp) o q⟩
 item := by
  intro X hP hw hK hc i pins s σ H E I hf st hg
  subst hP hw hK
  obtain ⟨old, he, hit⟩ := st
  obtain ⟨xs, x, hq, hx⟩ := hg
  obtain ⟨its, rv, p, hz⟩ := I.list (SqL.of hq)
  obtain ⟨u, hu, ru⟩ := rv.get hx
  refine wpAny_pyNext_enum_item he hit p.isList (x := u) (by simpa using hu) hne fun h1 heo hit1 ht1 hz1 hk1 => ⟨_, rfl, ?_⟩
  refine wpAny_letOwnedTupleGo_enum heo fun h2 he2 hs2 => ?_
  have hs2 : Heap.SameBut e h1 h2 := hs2
  have heH : e < s.heap.objs.size := Heap.lt_size he
  have hn : H s.heap.objs.size = none := I.hok.fresh (Nat.le_refl _)
  have ht2 : h2.get? s.heap.objs.size = some { cls := .type "tuple", data := .seq #[.int i s.toks, u] } := (hs2.2 _ (Nat.ne_of_gt heH)).trans ht1
  have I2 : Inv X pins σ (upd H s.heap.objs.size (.tup [.int (i : Int), x])) { s with heap := h2, toks := s.toks + 1 } := by
   refine I.turned2 hf (fun b ob h1' h2' q => (hs2.2 b h1').trans (hk1 b ob h1' h2' q)) ?_
   exact ⟨by rw [sizeLine_eq]; simp, [.int i s.toks, u], .cons ⟨_, rfl⟩ (.cons ru .nil), ⟨_, ht2, rfl, 0, rfl⟩⟩
  refine ⟨.ref s.heap.objs.size, _, I2, rfl, ⟨_, x, hn, rfl, rfl, fun ys hy => ?_⟩, ⟨u, ?_, ?_⟩, fun b hb => ?_⟩
  ·rw [hq] at hy; cases hy; exact hx
  ·have : ((i + 1 : Nat) : Int) = (i : Int) + 1 := by push_cast; rfl
   rw [this]; exact he2
  ·exact hit1.extBut hs2.extBut (Ne.symm hne)
  ·rw [Qg]
   ·exact (hf b hb).1
   ·rcases List.mem_cons.mp hb with z | z
    ·subst z; exact Nat.ne_of_lt heH
    ·have z : b = it := by simpa using z
     subst z
     obtain ⟨o, ho, _⟩ := hit
     exact Nat.ne_of_lt (Heap.lt_size ho)
 done := by
  intro X hP hw hK hc i pins s σ H E I hf st hg
  subst hP hw hK
  obtain ⟨old, he, hit⟩ := st
  obtain ⟨xs, hq, hx⟩ := hg
  obtain ⟨its, rv, p, hz⟩ := I.list (SqL.of hq)
  obtain ⟨f0, f1, f2, f3, f4, f5⟩ := hf it (by simp)
  have hl := rv.length
  exact wpAny_pyNext_enum_end (I.ok.hd hc) he hit p.isList (by simp; omega) fun h' eb => ⟨rfl, I.turned (t' := s.toks) (fun b o hb e => eb b o hb e) f0 f1 f3 f4 f5⟩
 self := fun _ _ _ _ _ ⟨_, he, _⟩ h => wpAny_pyIter_enum he h
section
variable {X : Cx}
def iEnum (ta : TA) : TI := fun σ H R => ta σ H fun vs H1 => ∃ a xs, vs = [.ref a] ∧ H1 a = some (.lst xs) ∧ R (Ite a) H1
theorem Qdt {elts : List Expr} {x1} {tpos : Pos} {l : Expr} {ta : TA} {p pos : Pos} (hg : Gl X "enumerate") (hm : X.mg "enumerate" = none) (ha : PA X [l] ta) (hs : starEach [l] X.env = [(false, eval l X.env)] := by rfl) :
  PI X (.Tuple elts x1 tpos) (.Call (.Name "enumerate" p) [l] [] pos) (iEnum ta) := by
 intro pins s σ H R I h
 refine Call_ (QcJ I hg hm boot_enumerate (PyProof.Rows.callWith_type1 (thn (ha pos pins s σ H _ I h) fun us s1 ⟨vs, H1, I1, r1, q1⟩ => ?_) hs rfl))
 obtain ⟨a, xs, e, hq, q⟩ := q1
 subst e
 obtain ⟨u, rfl, ru⟩ := Qey r1
 cases ru
 obtain ⟨z, its, n, rv, eo⟩ := I1.hok a _ hq
 refine call_enumerate_1 eo fun h' he hit hz hk => wpAny_pyIter_enum he ?_
 have I2 : Inv X pins σ H1 { s1 with heap := h' } := I1.kept (t' := s1.toks) hk
 refine ⟨_, [s1.heap.objs.size + 1, s1.heap.objs.size], _, _, H1, rfl, I2, Qhn a _ _ (Nat.succ_ne_self _), ⟨.none, he, hit⟩, fun b hb => ?_, q⟩
 rcases List.mem_cons.mp hb with z | z
 ·subst z; exact I1.fpOk (Nat.le_succ _) (I1.hok.fresh (Nat.le_succ _))
 ·have z : b = s1.heap.objs.size := by simpa using z
  subst z; exact I1.fpOk (Nat.le_refl _) (I1.hok.fresh (Nat.le_refl _))
end
theorem Qc9 {a : Addr} {xs : List V} {g : TG} {tb : TS} {D : Qiz} {σ : St} {H : Hp} (Pv : Nat → St → Hp → Prop) (h0 : Pv 0 σ H) (hl : ∀ i σ H, i ≤ xs.length → Pv i σ H → H a = some (.lst xs))
  (hs : ∀ i x σ H p, xs[i]? = some x → Pv i σ H → H p = none → g (.ref p) σ (upd H p (.tup [.int (i : Int), x])) fun σ2 H2 => tb { D with nx := Pv (i + 1), ct := Pv (i + 1), bk := D.nx } σ2 H2) (hd : ∀ σ H, Pv xs.length σ H → D.nx σ H) :
  ∃ W : Nat → Nat → St → Hp → Prop, (∃ m, W 0 m σ H) ∧ ∀ i m σ H, W i m σ H →
   ((Ite a).stop i H ∧ D.nx σ H) ∨ ((Ite a).go i H ∧ ∃ N : St → Hp → Prop, (∀ σ' H', N σ' H' → ∃ m', m' < m ∧ W (i + 1) m' σ' H') ∧ ∀ x H', (Ite a).yld i H x H' → g x σ H' fun σ2 H2 => tb { D with nx := N, ct := N, bk := D.nx } σ2 H2) := by
 refine ⟨fun i m σ H => m = xs.length - i ∧ i ≤ xs.length ∧ Pv i σ H, ⟨xs.length, by simp, Nat.zero_le _, h0⟩, ?_⟩
 rintro i m σ H ⟨rfl, hi, p⟩
 have q := hl i σ H hi p
 by_cases hlt : i < xs.length
 ·refine .inr ⟨⟨xs, xs[i], q, by simp [hlt]⟩, Pv (i + 1), fun σ' H' p' => ⟨xs.length - (i + 1), by omega, rfl, hlt, p'⟩, fun v H' y => ?_⟩
  obtain ⟨pp, x, hp, e1, e2, hx⟩ := y
  subst e1 e2
  exact hs i x σ H pp (hx xs q) p hp
 ·have e : i = xs.length := by omega
  subst e
  exact .inl ⟨⟨xs, q, Nat.le_refl _⟩, hd σ H p⟩
def gPair (i j : Nat) : TG := fun v σ H Q => ∃ p x y, v = .ref p ∧ H p = some (.tup [x, y]) ∧ Q ((σ.set i (some x)).set j (some y)) H
theorem Qb0 {X : Cx} {i j : Nat} {x y : Str} {px py pos : Pos} {k : Nat} (hc : X.calm = true) (hN : X.N.Nodup) (hi : X.N[i]? = some x) (hj : X.N[j]? = some y) (hx : Loc X.env.scope x) (hy : Loc X.env.scope y)
  (hfx : X.fn x = true ∨ X.env.scope.names.lookup x = some .local := by first | exact .inl rfl | exact .inr rfl | assumption) (hfy : X.fn y = true ∨ X.env.scope.names.lookup y = some .local := by first | exact .inl rfl | exact .inr rfl | assumption) :
  PG X (.Tuple [.Name x px, .Name y py] k pos) (gPair i j) := by
 intro pins s σ H v u Q I r h
 obtain ⟨p, a, b, rfl, hp, q⟩ := h
 have h := pg_tup (pos := pos) (k := k) (n := 2) hc (QgB (ZH (pos := px) (i := i) hN hi hx hfx) (QgB (ZH (pos := py) (i := j) hN hj hy hfy) QjC))
 exact h pins s σ H (.ref p) u Q I r ⟨p, [a, b], rfl, SqT.of hp, rfl, a, [b], rfl, b, [], rfl, rfl, q⟩
section
variable {X : Cx}
def tRng2 (ta : TA) : TE := fun σ H Q => ta σ H fun vs H1 => ∃ i j : Int, vs = [.int i, .int j] ∧ ∀ p, H1 p = none → Q (.ref p) (upd H1 p (.rng i j))
theorem Qfq {a b : Expr} {ta : TA} {p pos : Pos} (hg : Gl X "range") (hm : X.mg "range" = none) (ha : PA X [a, b] ta) (hs : starEach [a, b] X.env = [(false, eval a X.env), (false, eval b X.env)] := by rfl) (hs2 : starEach [b] X.env = [(false, eval b X.env)] := by rfl) :
  PE X (.Call (.Name "range" p) [a, b] [] pos) (tRng2 ta) := by
 intro pins s σ H Q I h
 refine Call_ (QcJ I hg hm boot_range (PyProof.Rows.callWith_type1 (thn (ha pos pins s σ H _ I h) fun us s1 ⟨vs, H1, I1, r1, q1⟩ => ?_) (by rw [hs, hs2]) (by rw [hs2]; rfl)))
 obtain ⟨i, j, e, q⟩ := q1
 subst e
 obtain ⟨u, w', rfl, ⟨t, rfl⟩, ⟨t', rfl⟩⟩ := QiA r1
 refine call_range_2 ⟨.ref s1.heap.objs.size, _, I1.laid (fun b ob q => Heap.get?_push_of_some _ q) (Nat.le_refl _) ?_, rfl, q _ (I1.hok.fresh (Nat.le_refl _))⟩
 exact ⟨_, _, _, Heap.get?_push_size _ rfl⟩
theorem Qhk : ∀ {xs : List V} {us : List Value}, xs.length = us.length → (∀ (i : Nat) (x : V) (u : Value), xs[i]? = some x → us[i]? = some u → RelV x u) → Vals xs us
 | [], [], _, _ => .nil
 | [], _ :: _, h, _ => by simp at h
 | _ :: _, [], h, _ => by simp at h
 | x :: xs, u :: us, h, f => .cons (f 0 x u rfl rfl) (Qhk (by simpa using h) fun i y v h1 h2 => f (i + 1) y v (by simpa using h1) (by simpa using h2))
def Qy (lo : Int) (n : Nat) : List Int := (List.range n).map fun (k : Nat) => lo + (k : Int)
theorem Qo (lo : Int) (n : Nat) : (Qy lo n).length = n := by simp [Qy]
theorem Zr {lo : Int} {n i : Nat} (h : i < n) : (Qy lo n)[i]? = some (lo + i) := by simp [Qy, h]
theorem QcN (hc : X.A.handled = none) : Qc4 X (.type "list") (fun xs H Q => ∃ (r : Addr) (lo hi : Int), xs = [.ref r] ∧ H r = some (.rng lo hi) ∧ -(2 ^ 62) ≤ lo ∧ lo < 2 ^ 62 ∧ -(2 ^ 62) ≤ hi ∧ hi < 2 ^ 62 ∧ (hi - lo).toNat ≤ 2 ^ 24 ∧
  ∀ p, H p = none → Q (.ref p) (upd H p (.lst ((Qy lo (hi - lo).toNat).map V.int)))) := by
 intro pins s σ H xs us Q I r h
 obtain ⟨a, lo, hi, rfl, ha, h1, h2, h3, h4, h5, q⟩ := h
 obtain ⟨u, rfl, ru⟩ := Qey r
 cases ru
 obtain ⟨t, u, v, eo⟩ := I.hok a _ ha
 have hn : Builtin.Range.rangeSize lo hi 1 = ((hi - lo).toNat : Int) := by rw [rangeSize_one]; split <;> omega
 refine call_list_range hc (show IsRange s.heap a lo hi 1 t u v from eo) (small_one h1 h2 h3 h4) hn h5 fun h' tk acc c hk hS hacc => ?_
 refine ⟨.ref s.heap.objs.size, _, I.laid (o := .lst ((Qy lo (hi - lo).toNat).map V.int)) hk (Nat.le_refl _) ?_, rfl, q _ (I.hok.fresh (Nat.le_refl _))⟩
 refine ⟨by rw [List.length_map, Qo, sizeLine_eq]; omega, acc.toList, c, Qhk ?_ fun i x w' e1 e2 => ?_, by simpa using hS⟩
 ·rw [List.length_map, Qo, Array.length_toList, hacc.1]
 ·have hlt : i < (hi - lo).toNat := by
   have := (List.getElem?_eq_some_iff.mp e1).1
   rw [List.length_map, Qo] at this
   exact this
  rw [List.getElem?_map, Zr hlt] at e1
  cases e1
  obtain ⟨t2, e3⟩ := hacc.2 i w' (by rw [← Array.getElem?_toList]; exact e2)
  exact ⟨t2, by rw [e3, Int.mul_one]⟩
theorem Qcv : ∀ {us : List Value} {ns : List Int}, IntsAre us ns → Vals (ns.map V.int) us
 | _, _, .nil => .nil
 | _, _, .cons n t h => .cons ⟨t, rfl⟩ (Qcv h)
theorem Qcz : ∀ {us : List Value} {ns : List Int}, us.length = ns.length → (∀ (i : Nat) (n : Int) (u : Value), ns[i]? = some n → us[i]? = some u → ∃ t, u = Value.int n t) → IntsAre us ns
 | [], [], _, _ => .nil
 | [], _ :: _, h, _ => by simp at h
 | _ :: _, [], h, _ => by simp at h
 | u :: us, n :: ns, h, f => by
  obtain ⟨t, e⟩ := f 0 n u rfl rfl
  subst e
  exact .cons n t (Qcz (by simpa using h) fun i y v h1 h2 => f (i + 1) y v (by simpa using h1) (by simpa using h2))
theorem QcL (hc : X.A.handled = none) : Qc4 X (.builtin "sorted") (fun xs H Q => ∃ (d : Addr) (kvs : List (Key × V)) (ns : List Int), xs = [.ref d] ∧ H d = some (.dK kvs) ∧ kvs.map (·.1) = ns.map (fun n => (Sum.inl n : Key)) ∧ ns.length < 64 ∧
  ∀ (p : Addr) (ns' : List Int), H p = none → ns'.Perm ns → ns'.Pairwise (· ≤ ·) → Q (.ref p) (upd H p (.lst (ns'.map V.int)))) := by
 intro pins s σ H xs us Q I r h
 obtain ⟨d, kvs, ns, rfl, hd, hk, h64, q⟩ := h
 obtain ⟨u, rfl, ru⟩ := Qey r
 cases ru
 obtain ⟨hz, hS, vs, rel, dd⟩ := QiZ I.hok hd
 obtain ⟨ep, hat⟩ := dd.dictAt
 have hlen : kvs.length = vs.length := rel.length
 have hkl : kvs.length = ns.length := by have := congrArg List.length hk; simpa using this
 have hks : vs.map (·.1) = ns.map (fun n => (Sum.inl n : Key)) := by rw [← hk]; exact (KV.keys rel).symm
 refine Calls.call_function_entry kind_sorted plain_sorted entry_sorted (args_sorted1 _) ?_
 unfold Builtin.«sorted»
 refine wpAny_bind (m := checkCount "sorted" 1 1 _) (wpAny_pure ?_)
 refine wpAny_bind (PySem.W.kdu_collect (A := X.A.in1) (PySem.W.kdl_dict (knd := Zf X.prog X.w) (kvs := vs) (ep := ep) hS) hc hat (by rw [← hlen]; exact hz) fun h' tk acc hkp hacc => ?_)
 have hal : acc.toList.length = ns.length := by rw [Array.length_toList, hacc.1, ← hlen, hkl]
 have hI : IntsAre acc.toList ns := Qcz hal fun i n v e1 e2 => by
  obtain ⟨k, x, e3, e4⟩ := hacc.2 i v (by rw [← Array.getElem?_toList]; exact e2)
  have e5 : (vs.map (·.1))[i]? = some k := by rw [List.getElem?_map, e3]; rfl
  rw [hks, List.getElem?_map, e1] at e5
  have e5 : (Sum.inl n : Key) = k := Option.some.inj e5
  subst e5
  have e4 : Value.isInt n v = true := e4
  obtain ⟨t, e⟩ := Value.isInt_shape e4
  exact ⟨t, e⟩
 refine wpAny_bind (wpAny_newList ?_ (by rw [hal, sizeLine_eq]; omega))
 have hoL : (h'.push (seqObj "list" acc.toList.toArray 0)).get? h'.objs.size = some (seqObj "list" acc.toList.toArray 0) := Heap.get?_push_size _ rfl
 refine wpAny_bind (wpAny_holding (wpAny_call_entry slot_list_sort ⟨_, hoL, rfl⟩ entry_list_sort (list_sort_tree (s := { s with heap := h'.push (seqObj "list" acc.toList.toArray 0), toks := tk }) hoL hI (by omega) fun out ns' a1 a2 a3 => ⟨_, rfl, ?_⟩) (args_list_sort _)))
 refine wpAny_pure ⟨_, rfl, ?_⟩
 obtain ⟨e, eo⟩ := sortedHeap_at (out := out) hoL
 have hfree : s.heap.get? h'.objs.size = none := by
  cases z : s.heap.get? h'.objs.size with
  | none => rfl
  | some o0 => exact absurd (Heap.lt_size (hkp _ o0 z)) (Nat.lt_irrefl _)
 refine ⟨.ref h'.objs.size, _, I.laidN (t' := tk) (o := .lst (ns'.map V.int)) (fun b ob q => ?_) hfree ?_, rfl, q _ ns' (I.hok.freeAt hfree) a2 a3⟩
 ·rw [sortedHeap_old (Nat.ne_of_lt (Heap.lt_size (hkp b ob q))) (by rw [size_push']; exact Nat.lt_succ_of_lt (Heap.lt_size (hkp b ob q)))]
  exact Heap.get?_push_of_some _ (hkp b ob q)
 ·exact ⟨by rw [List.length_map, a2.length_eq, sizeLine_eq]; omega, out.toList, e, Qcv a1, by simpa using eo⟩
end
end L2
namespace L2
open PySem PySem.Spec PyProof.Rows
section
variable {X : Cx}
theorem Qay : Qc4 X (.builtin "isinstance") (fun xs H Q => ∃ x T t b, xs = [x, .ty T] ∧ TyOf X.K H x t ∧ PySem.W.kitOne X.K t (.type T) = some b ∧ Q (.bl b) H) := by
 intro pins s σ H xs us Q I r h
 obtain ⟨x, T, t, b, rfl, ty, e, q⟩ := h
 obtain ⟨u, w', rfl, rx, rT⟩ := QiA r
 cases rT
 exact Qh9 I rx ty e fun tk => ⟨.bl b, H, I.tok tk, rfl, q⟩
def eqT (xs ys : List V) : Bool := xs.length == ys.length && (xs.zip ys).all fun p => eqV p.1 p.2
def rEqT (K : PySem.W.Frag) : R2 := fun x y H Q => ∃ a b xs ys, x = .ref a ∧ y = .ref b ∧ SqT K H a xs ∧ SqT K H b ys ∧ xs.all Qbt = true ∧ ys.all Qbt = true ∧ Q (.bl (eqT xs ys)) H
theorem QgO {xs : List V} (h : xs.all Qbt = true) {i : Nat} {x : V} (e : xs[i]? = some x) : Qbt x = true := List.all_eq_true.mp h x (List.mem_of_getElem? e)
theorem Qii {xs ys : List V} {e : Nat → Bool} (he : ∀ j x y, xs[j]? = some x → ys[j]? = some y → e j = eqV x y) : ((List.range (min xs.length ys.length)).all e && xs.length == ys.length) = eqT xs ys := by
 unfold eqT
 rw [Bool.and_comm]
 congr 1
 rw [Bool.eq_iff_iff, List.all_eq_true, List.all_eq_true]
 constructor
 ·intro h p hp
  obtain ⟨j, hj⟩ := List.getElem?_of_mem hp
  rw [List.getElem?_zip_eq_some] at hj
  have h1 := (List.getElem?_eq_some_iff.mp hj.1).1
  have h2 := (List.getElem?_eq_some_iff.mp hj.2).1
  rw [← he j _ _ hj.1 hj.2]
  exact h j (List.mem_range.mpr (by omega))
 ·intro h j hj
  have hj := List.mem_range.mp hj
  have h1 : xs[j]? = some xs[j] := List.getElem?_eq_getElem (by omega)
  have h2 : ys[j]? = some ys[j] := List.getElem?_eq_getElem (by omega)
  rw [he j _ _ h1 h2]
  exact h (xs[j], ys[j]) (List.mem_of_getElem? (i := j) (List.getElem?_zip_eq_some.mpr ⟨h1, h2⟩))
theorem op_eqT (hu : X.A.units < cLine) : OpR X (compareOp .Eq) (rEqT X.K) := by
 intro pins s σ H x y v u Q I rx ry h
 obtain ⟨a, b, xs, ys, rfl, rfl, ha, hb, fx, fy, q⟩ := h
 cases rx
 cases ry
 obtain ⟨its, r1, p1, _⟩ := I.tuple ha
 obtain ⟨its2, r2, p2, _⟩ := I.tuple hb
 have l1 := r1.length
 have l2 := r2.length
 refine SeqAt.eq_tupleAt (e := fun j => match xs[j]?, ys[j]? with | some x, some y => eqV x y | _, _ => false) (show s.heap.IsTuple a its.toArray from p1) (show s.heap.IsTuple b its2.toArray from p2) hu (fun j h1 h2 => ?_) ?_
 ·have h1 : j < its.length := by simpa using h1
  have h2 : j < its2.length := by simpa using h2
  have e1 : xs[j]? = some (xs[j]'(by omega)) := List.getElem?_eq_getElem (by omega)
  have e2 : ys[j]? = some (ys[j]'(by omega)) := List.getElem?_eq_getElem (by omega)
  obtain ⟨u1, q1, s1⟩ := r1.get e1
  obtain ⟨u2, q2, s2⟩ := r2.get e2
  have w1 : its.toArray[j] = u1 := by
   have := List.getElem?_eq_getElem h1
   rw [q1] at this
   simpa using (Option.some.inj this).symm
  have w2 : its2.toArray[j] = u2 := by
   have := List.getElem?_eq_getElem h2
   rw [q2] at this
   simpa using (Option.some.inj this).symm
  rw [w1, w2, e1, e2]
  exact Qij s1 s2 (QgO fx e1) (QgO fy e2)
 ·rw [List.size_toArray, List.size_toArray, ← l1, ← l2, Qii (xs := xs) (ys := ys) (fun j x y h1 h2 => by rw [h1, h2])]
  exact ⟨.bl _, H, I, rfl, q⟩
end
structure FunD (K : PySem.W.Frag) (x qual : Str) (st : Stmt) (f : Addr) (fd : FuncData) (ds : List Value) : Prop where
 ex : ∃ (oc : Value) (od : Option Addr) (T : Addr) (kV doc pm : Value) (an : Option Addr) (cdv ct : Value) (osl : Array (Option Value)) (oT : Obj) (n : Nat),
  fd = PySem.W.fnOf x qual (Qn st) (Qj st) (Qc st) (.ref T) kV doc pm an cdv ct ∧ K.lookup f = some ⟨oc, od, .func fd, osl⟩ ∧ PySem.W.codeIn K cdv qual = true ∧ K.lookup T = some oT ∧ oT.data = .seq ds.toArray n
 kp : PySem.W.keepIn K (.ref f) = true
section
variable {P : Program} {w : World} {K : PySem.W.Frag} {mg : Str → Option Value} {base : Heap}
theorem FunD.ok {x qual : Str} {st : Stmt} {f : Addr} {fd : FuncData} {ds : List Value} {N ps : List Str} {k : Nat} {sp : Sp} (F : FunD K x qual st f fd ds) (S : Qk N ps (Qc st)) (len : ∀ vs H Q E, sp vs H Q E → vs.length = ps.length)
  (hbody : ∀ (cdv : Value) (A : Around) (outer : List Env) (s : Shared) (H : Hp) (vs : List V) (Q : VK) (E : XK), Room k (A.deeper (envOfC qual (Qc st) s.heap.objs.size f cdv)) → sp vs H Q E →
   ∃ t, PSs (QjW CX0 P w K mg base N qual (Qc st) f cdv A outer s H E).nox (Qj st) t ∧ t { nx := fun _ H' => Q .non H', rt := Q } (Qez N vs) H) : FnOk P w K mg base CX0 (k + 1) f fd ps sp := by
 obtain ⟨oc, od, T, kV, doc, pm, an, cdv, ct, osl, oT, n, rfl, lk, hcd, _⟩ := F.ex
 refine fn_of lk hcd S len fun A outer s H vs Q E hr hsp => ?_
 obtain ⟨t, h, q⟩ := hbody cdv A outer s H vs Q E hr hsp
 exact ⟨t, h.nox, q⟩
theorem FunD.binds {x qual : Str} {st : Stmt} {f : Addr} {fd : FuncData} {ds es : List Value} {ps : List Str} (F : FunD K x qual st f fd ds)
  (h : ∀ (T : Addr) (kV doc pm : Value) (an : Option Addr) (cdv ct : Value) (us : List Value), (us ++ es).length = ps.length → ∃ k : Option (Array Value) → Sem (List (Str × Value)),
   bindArgs (PySem.W.fnOf x qual (Qn st) (Qj st) (Qc st) (.ref T) kV doc pm an cdv ct) ⟨us, []⟩ = seqItems? (.ref T) >>= k ∧ k (some ds.toArray) = pure (ps.zip (us ++ es))) : Binds K fd ps es := by
 obtain ⟨oc, od, T, kV, doc, pm, an, cdv, ct, osl, oT, n, rfl, lk, hcd, hT, hd⟩ := F.ex
 intro s us KX hl
 obtain ⟨k, h1, h2⟩ := h T kV doc pm an cdv ct us hl
 exact BindsTo.of_defaults rfl (KX _ _ hT) hd h1 h2
theorem Qe2 {x qual : Str} {st : Stmt} {f T : Addr} {oc : Value} {od an : Option Addr} {osl : Array (Option Value)} {kV doc pm cdv ct : Value} {oT : Obj} {ds : List Value} {n : Nat} (l : K.lookup f = some ⟨oc, od, .func (PySem.W.fnOf x qual (Qn st) (Qj st) (Qc st) (.ref T) kV doc pm an cdv ct), osl⟩)
  (c : PySem.W.codeIn K cdv qual = true) (k : PySem.W.keepIn K (.ref f) = true) (hT : K.lookup T = some oT) (hd : oT.data = .seq ds.toArray n) : FunD K x qual st f (PySem.W.fnOf x qual (Qn st) (Qj st) (Qc st) (.ref T) kV doc pm an cdv ct) ds := ⟨⟨oc, od, T, kV, doc, pm, an, cdv, ct, osl, oT, n, rfl, l, c, hT, hd⟩, k⟩
end
end L2
namespace L2
open PySem PySem.Spec PyProof.Rows
structure Qi1 (P : Program) (w : World) (K : PySem.W.Frag) (a : Addr) (kvs : List (Key × V)) : Prop where
 at_ : ∃ vs, KV kvs vs ∧ ∀ h : Heap, K.In h → h.DictOf (Zf P w) a vs
 ns : (a == sysModules) = false
def tKGet2 (kvs : List (Key × V)) (ty tx : TE) : TE := fun σ H Q => ty σ H fun y H2 => tx σ H2 fun z H3 => ∃ k, y = kV k ∧ Q ((QbP kvs k).getD z) H3
theorem QiI {X : Cx} {a : Addr} {kvs : List (Key × V)} {g : Str} {p apos cpos : Pos} {e f : Expr} {ty tx : TE} (D : Qi1 X.prog X.w X.K a kvs) (hg : Gl X g) (hm : X.mg g = some (.ref a)) (he : PE X e ty) (hf : PE X f tx) (m : M2 X (.Name g p) "get" apos e f cpos)
  (hd : (g == ("__debug__" : Str)) = false := by decide) : PE X (.Call (.Attribute (.Name g p) "get" apos) [e, f] [] cpos) (tKGet2 kvs ty tx) := by
 intro pins s σ H Q I h
 obtain ⟨vs, rel, at_⟩ := D.at_
 refine wpAny_Call_method m.base m.few m.line PySem.F.plainAttrs_dict PySem.F.slot_dict_get PySem.F.type_dict_get (QeX I hg hm ?_ hd)
 have dd := at_ _ I.kIn
 refine ⟨dd.typeIs, fun b q => ?_, ?_⟩
 ·cases q
  obtain ⟨ob, _, _, h1, h2, _⟩ := dd
  exact ⟨ob, h1, h2.2.1⟩
 ·rw [m.trees]
  refine Calls.callWith_builtin rfl (Calls.evalArgs_plain (Calls.spliced_cons (thn (he pins s σ H _ I h) fun iv s2 ⟨y, H2, I2, ry, q2⟩ =>
   Calls.spliced_cons (thn (hf pins s2 σ H2 _ I2 q2) fun fv s3 ⟨z, H3, I3, rz, k, ey, q3⟩ => Calls.spliced_nil ?_))))
  subst ey
  have d3 := at_ _ I3.kIn
  refine call_meetsIn PySem.F.slot_dict_get d3.typeIs PySem.F.entry_dict_get (PySem.F.args_dict_get_3 _ _ _) (meets_dict_get_default (Zf X.prog X.w) a (Qga ry) D.ns fv) ⟨_, d3.mapOf, ?_⟩
  exact ⟨_, H3, I3.tok _, (rel.val k).getD rz, q3⟩
theorem kdict2 {P : Program} {w : World} {K : PySem.W.Frag} {a : Addr} {ep : Nat} {h1 h2 : Int} {x1 x2 : Str} {t1 t2 u1 u2 : Tok} {i1 i2 : Int} (lk : K.lookup a = some ⟨.type "dict", none, .dict #[⟨h1, .str x1 t1, .int i1 u1⟩, ⟨h2, .str x2 t2, .int i2 u2⟩] ep, #[]⟩)
  (e1 : h1 = hashStr w x1) (e2 : h2 = hashStr w x2) (ne : x1 ≠ x2) (ns : (a == sysModules) = false) : Qi1 P w K a [(Sum.inr x1, .int i1), (Sum.inr x2, .int i2)] := by
 refine ⟨⟨[(Sum.inr x1, .int i1 u1), (Sum.inr x2, .int i2 u2)], .cons ⟨rfl, _, rfl⟩ (.cons ⟨rfl, _, rfl⟩ .nil), fun h KX => ?_⟩, ns⟩
 refine ⟨_, _, ep, KX _ _ lk, ⟨rfl, rfl, rfl⟩, rfl, fun e he => ?_, .cons (Qbs x1 t1) rfl (.cons (Qbs x2 t2) rfl .nil), ?_⟩
 ·have he : e = ⟨h1, .str x1 t1, .int i1 u1⟩ ∨ e = ⟨h2, .str x2 t2, .int i2 u2⟩ := by simpa using he
  rcases he with rfl | rfl
  ·exact ⟨Sum.inr x1, Qbs x1 t1, e1⟩
  ·exact ⟨Sum.inr x2, Qbs x2 t2, e2⟩
 ·show [(Sum.inr x1 : Key), Sum.inr x2].Nodup
  simp [ne]
end L2
namespace L2
open PySem PySem.Spec PyProof.Rows
section
variable {X : Cx} {pins : List (Addr × Obj)} {σ : St} {H : Hp} {s : Shared}
theorem Inv.turnedL {fp : List Addr} {h' : Heap} {t' : Nat} (I : Inv X pins σ H s) (hf : ∀ b ∈ fp, Qe8 X pins H b)
  (k : ∀ b ob, b ∉ fp → s.heap.get? b = some ob → h'.get? b = some ob) : Inv X pins σ H { s with heap := h', toks := t' } := by
 have nit : ∀ b u, H b = some u → b ∉ fp := fun b u e z => by rw [(hf b z).1] at e; cases e
 have nL : X.env.locals ∉ fp := fun z => (hf _ z).2.1 rfl
 refine I.step (g' := s.gens) (d' := s.drawn) (ch := fp) (fun b hb => ?_) (fun b o _ _ hc e _ => k b o hc e) (fun b o _ _ hc e _ => ⟨o.slots, k b o hc e⟩) (fun _ _ _ _ n => n)
  (fun b o hc e => ⟨o, k b o hc e⟩) (fun _ _ e => e) (fun _ _ _ e => e) (fun b ps e => ⟨#[], by rw [e]; simp⟩) (fun m hm => ?_) (fun b u e => ?_) I.bare
 ·obtain ⟨_, f1, _, f3, f4, f5⟩ := hf b hb
  exact ⟨f3, f1, f4, f5⟩
 ·obtain ⟨o, es, ep, ho, r⟩ := hm
  exact ⟨o, es, ep, k _ o nL ho, r⟩
 ·refine (I.hok b u e).stay (fun c v hc q => k c v ?_ q) (fun _ q => q) fun _ _ q => q
  rcases hc with z | z
  ·rw [z]; exact nit b u e
  ·exact nit _ _ z
theorem Inv.turnedLN {fp : List Addr} {h' : Heap} {t' : Nat} {o : HO} (I : Inv X pins σ H s) (hf : ∀ b ∈ fp, Qe8 X pins H b)
  (k : ∀ b ob, b ∉ fp → s.heap.get? b = some ob → h'.get? b = some ob) (new : ObjOk X.prog X.w (upd H s.heap.objs.size o) h' s.heap.objs.size o) :
  Inv X pins σ (upd H s.heap.objs.size o) { s with heap := h', toks := t' } := by
 have nit : ∀ b u, H b = some u → b ∉ fp := fun b u e z => by rw [(hf b z).1] at e; cases e
 have nL : X.env.locals ∉ fp := fun z => (hf _ z).2.1 rfl
 have ne : ∀ b ob, s.heap.get? b = some ob → b ≠ s.heap.objs.size := fun b ob q => Nat.ne_of_lt (Heap.lt_size q)
 have hn : H s.heap.objs.size = none := I.hok.fresh (Nat.le_refl _)
 refine I.step (g' := s.gens) (d' := s.drawn) (ch := fp) (fun b hb => ?_) (fun b ob _ _ hc q _ => k b ob hc q) (fun b ob _ _ hc q _ => ⟨ob.slots, k b ob hc q⟩)
  (fun b ob _ q n => by rw [Qg (ne b ob q)]; exact n) (fun b ob hc q => ⟨ob, k b ob hc q⟩) (fun b xs q => by rw [Qg (Qd q hn)]; exact q)
  (fun b ob u q => by rw [Qg (Qd q hn)]; exact q) (fun b ps q => ⟨#[], by rw [Qg (Qd q hn), q]; simp⟩) (fun m hm => ?_) (fun b u q => ?_) I.bare
 ·obtain ⟨_, f1, _, f3, f4, f5⟩ := hf b hb
  exact ⟨f3, f1, f4, f5⟩
 ·obtain ⟨ob, es, ep, ho, r⟩ := hm
  exact ⟨ob, es, ep, k _ ob nL ho, r⟩
 ·by_cases hb : b = s.heap.objs.size
  ·subst hb; rw [Qb] at q; cases q; exact new
  ·rw [Qg hb] at q
   refine (I.hok b u q).stay (fun c v hc z => k _ v ?_ z) (fun c z => by rw [Qg (Qd z hn)]; exact z) fun c xs z => by rw [Qg (Qd z hn)]; exact z
   rcases hc with y | y
   ·subst y; exact nit _ _ q
   ·exact nit _ _ y
end
theorem QhU {X : Cx} {K' : PySem.W.Frag} {e : Expr} {f : Str} {pos : Pos} {ta : TE} (h : X.K = K') (he : PE X e ta) (hb : attributeBase e f X.env (eval e X.env) = eval e X.env) : PE X (.Attribute e f pos) (tFld K' ta f) := h ▸ ZM he hb
def Itz (a b : Addr) : It :=
  ⟨fun i H => ∃ xs ys x y, H a = some (.lst xs) ∧ H b = some (.lst ys) ∧ xs[i]? = some x ∧ ys[i]? = some y,
   fun i H v H' => ∃ p x y, H p = none ∧ v = .ref p ∧ H' = upd H p (.tup [x, y]) ∧ (∀ xs, H a = some (.lst xs) → xs[i]? = some x) ∧ ∀ ys, H b = some (.lst ys) → ys[i]? = some y,
   fun i H => ∃ xs ys, H a = some (.lst xs) ∧ H b = some (.lst ys) ∧ (xs.length ≤ i ∨ ys.length ≤ i)⟩
theorem QiC {P : Program} {w : World} {K : PySem.W.Frag} {elts : List Expr} {x1} {pos : Pos} (l1 l2 z TI TO i1 i2 : Addr) (D : ZipApart z TI TO i1 i2 l1 l2) :
  Qjk P w K (.Tuple elts x1 pos) (Itz l1 l2) [z, TI, TO, i1, i2] z (fun i h => IsZip h z TI TO .none ∧ IsPair h TI (.ref i1) (.ref i2) ∧ (∃ a b, IsPair h TO a b) ∧ h.IsListIter i1 l1 i ∧ h.IsListIter i2 l2 i) where
 mem := by simp
 obj := fun i h st b hb => by
  obtain ⟨hz, hTI, ⟨a, b', hTO⟩, ⟨o1, ho1, hc1, hd1⟩, ⟨o2, ho2, hc2, hd2⟩⟩ := st
  simp only [List.mem_cons, List.not_mem_nil, or_false] at hb
  rcases hb with rfl | rfl | rfl | rfl | rfl
  ·exact ⟨_, hz, fun v z => by cases z⟩
  ·exact ⟨_, hTI, fun v z => by cases z⟩
  ·exact ⟨_, hTO, fun v z => by cases z⟩
  ·exact ⟨o1, ho1, fun v z => by rw [hd1] at z; cases z⟩
  ·exact ⟨o2, ho2, fun v z => by rw [hd2] at z; cases z⟩
 keep := fun i h h' ⟨hz, hTI, ⟨a, b, hTO⟩, h1, h2⟩ k => ⟨k z (by simp) _ hz, k TI (by simp) _ hTI, ⟨a, b, k TO (by simp) _ hTO⟩, h1.at fun o q => k i1 (by simp) o q, h2.at fun o q => k i2 (by simp) o q⟩
 item := by
  intro X hP hw hK hc i pins s σ H E I hf st hg
  subst hP hw hK
  obtain ⟨hz, hTI, ⟨a, b, hTO⟩, h1, h2⟩ := st
  obtain ⟨xs, ys, x, y, hq, hq2, hx, hy⟩ := hg
  obtain ⟨its, rv, p, hsz⟩ := I.list (SqL.of hq)
  obtain ⟨its2, rv2, p2, hsz2⟩ := I.list (SqL.of hq2)
  obtain ⟨u, hu, ru⟩ := rv.get hx
  obtain ⟨u2, hu2, ru2⟩ := rv2.get hy
  refine wpAny_pyNext_zip_item D hz hTI hTO h1 h2 p.isList p2.isList (x := u) (y := u2) (by simpa using hu) (by simpa using hu2) fun h3 hz3 hTO3 h13 h23 ht3 hs3 hk3 => ⟨_, rfl, ?_⟩
  refine wpAny_letOwnedTupleGo_zip hz3 fun h4 hz4 hs4 => ?_
  have hs4 : Heap.SameBut z h3 h4 := hs4
  have hzH : z < s.heap.objs.size := Heap.lt_size hz
  have hn : H s.heap.objs.size = none := I.hok.fresh (Nat.le_refl _)
  have ht4 : h4.get? s.heap.objs.size = some { cls := .type "tuple", data := .seq #[u, u2] } := (hs4.2 _ (Nat.ne_of_gt hzH)).trans ht3
  have kk : ∀ b ob, b ∉ [z, TI, TO, i1, i2] → s.heap.get? b = some ob → h4.get? b = some ob := fun b ob hb e => by
   simp only [List.mem_cons, List.not_mem_nil, or_false, not_or] at hb
   exact (hs4.2 b hb.1).trans (hk3 b ob hb.1 hb.2.2.1 hb.2.2.2.1 hb.2.2.2.2 e)
  have I2 : Inv X pins σ (upd H s.heap.objs.size (.tup [x, y])) { s with heap := h4, toks := s.toks } := by
   refine I.turnedLN hf kk ?_
   exact ⟨by rw [sizeLine_eq]; simp, [u, u2], .cons ru (.cons ru2 .nil), ⟨_, ht4, rfl, 0, rfl⟩⟩
  refine ⟨.ref s.heap.objs.size, _, I2, rfl, ⟨_, x, y, hn, rfl, rfl, fun zs hy' => ?_, fun zs hy' => ?_⟩, ⟨hz4, ?_, ⟨u, u2, ?_⟩, ?_, ?_⟩, fun b hb => ?_⟩
  ·rw [hq] at hy'; cases hy'; exact hx
  ·rw [hq2] at hy'; cases hy'; exact hy
  ·exact (hs4.2 _ D.TIz).trans (hk3 _ _ D.TIz D.TITO D.TIi1 D.TIi2 hTI)
  ·exact (hs4.2 _ D.TOz).trans hTO3
  ·exact h13.extBut hs4.extBut D.i1z
  ·exact h23.extBut hs4.extBut D.i2z
  ·rw [Qg]
   ·exact (hf b hb).1
   ·obtain ⟨o1, ho1, _⟩ := h1
    obtain ⟨o2, ho2, _⟩ := h2
    simp only [List.mem_cons, List.not_mem_nil, or_false] at hb
    rcases hb with rfl | rfl | rfl | rfl | rfl
    ·exact Nat.ne_of_lt hzH
    ·exact Nat.ne_of_lt (Heap.lt_size hTI)
    ·exact Nat.ne_of_lt (Heap.lt_size hTO)
    ·exact Nat.ne_of_lt (Heap.lt_size ho1)
    ·exact Nat.ne_of_lt (Heap.lt_size ho2)
 done := by
  intro X hP hw hK hc i pins s σ H E I hf st hg
  subst hP hw hK
  obtain ⟨hz, hTI, ⟨a, b, hTO⟩, h1, h2⟩ := st
  obtain ⟨xs, ys, hq, hq2, hx⟩ := hg
  obtain ⟨its, rv, p, hsz⟩ := I.list (SqL.of hq)
  obtain ⟨its2, rv2, p2, hsz2⟩ := I.list (SqL.of hq2)
  have hl := rv.length
  have hl2 := rv2.length
  refine wpAny_pyNext_zip_end (I.ok.hd hc) D hz hTI hTO h1 h2 p.isList p2.isList ?_ fun h' eb => ⟨rfl, I.turnedL (t' := s.toks) hf fun b ob hb e => ?_⟩
  ·rcases hx with hx | hx
   ·left; simp; omega
   ·right; simp; omega
  ·simp only [List.mem_cons, List.not_mem_nil, or_false, not_or] at hb
   exact eb b ob hb.1 hb.2.2.1 hb.2.2.2.1 hb.2.2.2.2 e
 self := fun _ _ _ _ _ ⟨hz, _⟩ h => wpAny_pyIter_zip hz h
section
variable {X : Cx}
def iZip (ta : TA) : TI := fun σ H R => ta σ H fun vs H1 => ∃ a b xs ys, vs = [.ref a, .ref b] ∧ H1 a = some (.lst xs) ∧ H1 b = some (.lst ys) ∧ R (Itz a b) H1
theorem Qjb {elts : List Expr} {x1} {tpos : Pos} {l m : Expr} {ta : TA} {p pos : Pos} (hg : Gl X "zip") (hm : X.mg "zip" = none) (ha : PA X [l, m] ta)
  (hs : starEach [l, m] X.env = [(false, eval l X.env), (false, eval m X.env)] := by rfl) (hs2 : starEach [m] X.env = [(false, eval m X.env)] := by rfl) :
  PI X (.Tuple elts x1 tpos) (.Call (.Name "zip" p) [l, m] [] pos) (iZip ta) := by
 intro pins s σ H R I h
 refine Call_ (QcJ I hg hm boot_zip (PyProof.Rows.callWith_type1 (thn (ha pos pins s σ H _ I h) fun us s1 ⟨vs, H1, I1, r1, q1⟩ => ?_) (by rw [hs, hs2]) (by rw [hs2]; rfl)))
 obtain ⟨a, b, xs, ys, e, hq, hq2, q⟩ := q1
 subst e
 obtain ⟨u, u2, rfl, ru, ru2⟩ := QiA r1
 cases ru
 cases ru2
 obtain ⟨its, rv, p1, hsz⟩ := I1.list (SqL.of hq)
 obtain ⟨its2, rv2, p2, hsz2⟩ := I1.list (SqL.of hq2)
 obtain ⟨o1, ho1, _⟩ := p1.isList
 obtain ⟨o2, ho2, _⟩ := p2.isList
 refine call_zip_2 p1.isList p2.isList fun h' hz hTI hTO hi1 hi2 hsz hk => wpAny_pyIter_zip hz ?_
 have I2 : Inv X pins σ H1 { s1 with heap := h' } := I1.kept (t' := s1.toks) hk
 refine ⟨_, [s1.heap.objs.size + 4, s1.heap.objs.size + 2, s1.heap.objs.size + 3, s1.heap.objs.size, s1.heap.objs.size + 1], _, _, H1, rfl, I2,
  QiC a b _ _ _ _ _ (zipApart_new (Heap.lt_size ho1) (Heap.lt_size ho2)), ⟨hz, hTI, ⟨_, _, hTO⟩, hi1, hi2⟩, fun c hc => ?_, q⟩
 have hc : s1.heap.objs.size ≤ c := by
  simp only [List.mem_cons, List.not_mem_nil, or_false] at hc
  rcases hc with rfl | rfl | rfl | rfl | rfl <;> omega
 exact I1.fpOk hc (I1.hok.fresh hc)
end
theorem Qif {a b : Addr} {xs ys : List V} {g : TG} {tb : TS} {D : Qiz} {σ : St} {H : Hp} (Pv : Nat → St → Hp → Prop) (he : xs.length = ys.length) (h0 : Pv 0 σ H) (hl : ∀ i σ H, i ≤ xs.length → Pv i σ H → H a = some (.lst xs) ∧ H b = some (.lst ys))
  (hs : ∀ i x y σ H p, xs[i]? = some x → ys[i]? = some y → Pv i σ H → H p = none → g (.ref p) σ (upd H p (.tup [x, y])) fun σ2 H2 => tb { D with nx := Pv (i + 1), ct := Pv (i + 1), bk := D.nx } σ2 H2) (hd : ∀ σ H, Pv xs.length σ H → D.nx σ H) :
  ∃ W : Nat → Nat → St → Hp → Prop, (∃ m, W 0 m σ H) ∧ ∀ i m σ H, W i m σ H →
   ((Itz a b).stop i H ∧ D.nx σ H) ∨ ((Itz a b).go i H ∧ ∃ N : St → Hp → Prop, (∀ σ' H', N σ' H' → ∃ m', m' < m ∧ W (i + 1) m' σ' H') ∧ ∀ x H', (Itz a b).yld i H x H' → g x σ H' fun σ2 H2 => tb { D with nx := N, ct := N, bk := D.nx } σ2 H2) := by
 refine ⟨fun i m σ H => m = xs.length - i ∧ i ≤ xs.length ∧ Pv i σ H, ⟨xs.length, by simp, Nat.zero_le _, h0⟩, ?_⟩
 rintro i m σ H ⟨rfl, hi, p⟩
 obtain ⟨q, q2⟩ := hl i σ H hi p
 by_cases hlt : i < xs.length
 ·have hlt2 : i < ys.length := by omega
  refine .inr ⟨⟨xs, ys, xs[i], ys[i], q, q2, by simp [hlt], by simp [hlt2]⟩, Pv (i + 1), fun σ' H' p' => ⟨xs.length - (i + 1), by omega, rfl, hlt, p'⟩, fun v H' y => ?_⟩
  obtain ⟨pp, x, y, hp, e1, e2, hx, hy⟩ := y
  subst e1 e2
  exact hs i x y σ H pp (hx xs q) (hy ys q2) p hp
 ·have e : i = xs.length := by omega
  subst e
  exact .inl ⟨⟨xs, ys, q, q2, .inl (Nat.le_refl _)⟩, hd σ H p⟩
end L2
namespace LW
open PySem L2
section
variable {κ : Type} [DecidableEq κ]
theorem Qda {kvs : List (κ × V)} (nd : (kvs.map (·.1)).Nodup) {i : Nat} {k : κ} {v : V} (h : kvs[i]? = some (k, v)) : QbP kvs k = some v := by
 induction kvs generalizing i with
 | nil => simp at h
 | cons p r ih =>
  have nd : (p.1 :: r.map (·.1)).Nodup := nd
  obtain ⟨n1, n2⟩ := List.nodup_cons.mp nd
  cases i with
  | zero =>
   have h : p = (k, v) := by simpa using h
   subst h
   exact Qbv rfl
  | succ i =>
   have h : r[i]? = some (k, v) := by simpa using h
   have hk : k ∈ r.map (·.1) := List.mem_map.mpr ⟨(k, v), List.mem_of_getElem? h, rfl⟩
   rw [Qbx (fun e => n1 (by rw [e]; exact hk))]
   exact ih n2 h
theorem Qbw {kvs : List (κ × V)} {k : κ} (h : ¬ k ∈ kvs.map (·.1)) : QbP kvs k = none := by
 cases e : QbP kvs k with
 | none => rfl
 | some v => exact absurd (Qhl e) h
end
section
variable {α β : Type} {F G : α → β → Prop}
theorem ZK : ∀ {xs : List α} {ys : List β} {i : Nat} {x : α}, Paired F xs ys → xs[i]? = some x → ∃ y, ys[i]? = some y ∧ F x y
 | _, _, _, _, .nil, h => by simp at h
 | _, _, 0, _, .cons r _, h => by simp at h; subst h; exact ⟨_, rfl, r⟩
 | _, _, i + 1, x, .cons _ t, h => by
  obtain ⟨y, h1, h2⟩ := ZK (i := i) (x := x) t (by simpa using h)
  exact ⟨y, by simpa using h1, h2⟩
theorem QM : ∀ {xs : List α} {ys : List β} {i : Nat} {y : β}, Paired F xs ys → ys[i]? = some y → ∃ x, xs[i]? = some x ∧ F x y
 | _, _, _, _, .nil, h => by simp at h
 | _, _, 0, _, .cons r _, h => by simp at h; subst h; exact ⟨_, rfl, r⟩
 | _, _, i + 1, x, .cons _ t, h => by
  obtain ⟨y, h1, h2⟩ := QM (i := i) (y := x) t (by simpa using h)
  exact ⟨y, by simpa using h1, h2⟩
theorem Qgz {x : α} {y : β} (r : F x y) : ∀ {xs : List α} {ys : List β} (i : Nat), Paired F xs ys → Paired F (xs.set i x) (ys.set i y)
 | _, _, _, .nil => .nil
 | _, _, 0, .cons _ t => .cons r t
 | _, _, i + 1, .cons q t => .cons q (Qgz r i t)
theorem Qaj : ∀ {xs xs' : List α} {ys ys' : List β}, Paired F xs ys → Paired F xs' ys' → Paired F (xs ++ xs') (ys ++ ys')
 | _, _, _, _, .nil, s => s
 | _, _, _, _, .cons r t, s => .cons r (Qaj t s)
theorem QQ (f : ∀ a b, a ∈ (xs : List α) → b ∈ (ys : List β) → F a b → G a b) (h : Paired F xs ys) : Paired G xs ys := by
 induction h with
 | nil => exact .nil
 | cons r t ih => exact .cons (f _ _ List.mem_cons_self List.mem_cons_self r) (ih fun a b ha hb => f a b (List.mem_cons_of_mem _ ha) (List.mem_cons_of_mem _ hb))
theorem QhS {x : α} {y : β} (r : F x y) : ∀ n : Nat, Paired F (List.replicate n x) (List.replicate n y)
 | 0 => .nil
 | n + 1 => .cons r (QhS r n)
theorem QB {xs : List α} {ys : List β} (h : Paired F xs ys) : xs.length = ys.length := Paired.length h
end
inductive T where
 | non | num (i : Int) | box (n : Int)
 deriving DecidableEq
def isT (H : Hp) : T → V → Prop
 | .non, v => v = .non
 | .num i, v => v = .int i
 | .box n, v => ∃ a, v = .ref a ∧ H a = some (.tup [.str "box", .int n])
def Tups (H H' : Hp) : Prop := ∀ b xs, H b = some (.tup xs) → H' b = some (.tup xs)
theorem Tups.refl (H : Hp) : Tups H H := fun _ _ h => h
theorem Tups.trans {H H1 H2 : Hp} (a : Tups H H1) (b : Tups H1 H2) : Tups H H2 := fun c xs h => b c xs (a c xs h)
theorem Tups.of_same {H H' : Hp} (s : Same H H') : Tups H H' := fun b _ h => s b _ h
theorem Tups.upd {H : Hp} {a : Addr} {o o' : HO} (h : H a = some o') (n : ∀ xs, o' ≠ .tup xs) : Tups H (upd H a o) := fun b xs q => by
 rw [Qg]
 ·exact q
 ·rintro rfl
  rw [h] at q
  cases q
  exact n xs rfl
theorem Tups.new {H : Hp} {a : Addr} {o : HO} (h : H a = none) : Tups H (L2.upd H a o) := fun b xs q => by rw [Qg (Qd q h)]; exact q
theorem isT.keep {H H' : Hp} {t : T} {v : V} (k : Tups H H') (h : isT H t v) : isT H' t v := by
 cases t with
 | non => exact h
 | num i => exact h
 | box n => obtain ⟨a, e, q⟩ := h; exact ⟨a, e, k _ _ q⟩
abbrev Ths (H : Hp) : List T → List V → Prop := Paired (isT H)
theorem Ths.keep {H H' : Hp} {ts : List T} {vs : List V} (k : Tups H H') (h : Ths H ts vs) : Ths H' ts vs := QQ (fun _ _ _ _ z => z.keep k) h
def ThL (H : Hp) (ts : List T) (a : Addr) : Prop := ∃ vs, H a = some (.lst vs) ∧ Ths H ts vs
def Qix (H : Hp) (ns : List Int) (a : Addr) : Prop := H a = some (.lst (ns.map V.int))
theorem ThL.keep {H H' : Hp} {ts : List T} {a : Addr} (k : Tups H H') (e : H' a = H a) (h : ThL H ts a) : ThL H' ts a := let ⟨vs, h1, h2⟩ := h; ⟨vs, e.trans h1, h2.keep k⟩
structure Box where
 name : Int
 kind : Str
 row : List T
structure HS where
 room : Int
 slots : List T
 last : Int
 boxes : List Box
 queues : List (List Int)
 told : List (List Int)
structure HA where
 dx : Addr
 sl : Addr
 kd : Addr
 fd : Addr
 fl : List Addr
 qs : Addr
 ql : List Addr
 td : Addr
 tl : List Addr
def HA.lists (A : HA) : List Addr := A.sl :: A.qs :: A.td :: (A.fl ++ (A.ql ++ A.tl))
def HA.foot (A : HA) (p : Addr) : List Addr := p :: A.kd :: A.fd :: A.lists
def Qaq (A : HA) (S : HS) : List (Str × V) :=
 [("room", .int S.room), ("slots", .ref A.sl), ("last_name", .int S.last), ("kinds", .ref A.kd), ("fields", .ref A.fd), ("queues", .ref A.qs), ("told", .ref A.td)]
def Qr (bs : List Box) : List (Key × V) := bs.map fun b => ((Sum.inl b.name : Key), V.str b.kind)
def Ql (bs : List Box) (fl : List Addr) : List (Key × V) := (bs.zip fl).map fun q => ((Sum.inl q.1.name : Key), V.ref q.2)
structure HouseAt (C : Addr) (H : Hp) (p : Addr) (A : HA) (S : HS) : Prop where
 ob : H p = some (.ins C A.dx (Qaq A S))
 sl : ThL H S.slots A.sl
 kd : H A.kd = some (.dK (Qr S.boxes))
 fd : H A.fd = some (.dK (Ql S.boxes A.fl))
 fl : Paired (fun b a => ThL H b.row a) S.boxes A.fl
 qs : H A.qs = some (.lst (A.ql.map V.ref))
 ql : Paired (Qix H) S.queues A.ql
 td : H A.td = some (.lst (A.tl.map V.ref))
 tl : Paired (Qix H) S.told A.tl
 nd : A.lists.Nodup
 kf : A.kd ≠ A.fd
 asc : (S.boxes.map (·.name)).Pairwise (· < ·)
 top : ∀ b ∈ S.boxes, b.name ≤ S.last
theorem HouseAt.nm {C : Addr} {H : Hp} {p : Addr} {A : HA} {S : HS} (h : HouseAt C H p A S) : (S.boxes.map (·.name)).Nodup := h.asc.imp fun z => Int.ne_of_lt z
def Frame (F : List Addr) (H H' : Hp) : Prop := ∀ b o, H b = some o → b ∉ F → H' b = some o
theorem Frame.of_same {F : List Addr} {H H' : Hp} (s : Same H H') : Frame F H H' := fun b o h _ => s b o h
theorem Frame.refl (F : List Addr) (H : Hp) : Frame F H H := fun _ _ h _ => h
theorem Frame.trans {F F' : List Addr} {H H1 H2 : Hp} (a : Frame F H H1) (b : Frame F' H1 H2) (hF : ∀ c o, H c = some o → c ∉ F → c ∉ F') : Frame F H H2 := fun c o h n => b c o (a c o h n) (hF c o h n)
def Grown (F F' : List Addr) (H : Hp) : Prop := ∀ b ∈ F', b ∈ F ∨ H b = none
theorem Grown.refl (F : List Addr) (H : Hp) : Grown F F H := fun _ h => .inl h
theorem Grown.out {F F' : List Addr} {H : Hp} (g : Grown F F' H) {b : Addr} {o : HO} (h : H b = some o) (n : b ∉ F) : b ∉ F' := fun z => by
 rcases g b z with q | q
 ·exact n q
 ·rw [h] at q; cases q
section
variable {C : Addr} {H H' : Hp} {p : Addr} {A : HA} {S : HS}
theorem HouseAt.keep (h : HouseAt C H p A S) (k : ∀ b ∈ A.foot p, H' b = H b) (t : Tups H H') : HouseAt C H' p A S where
 ob := (k p (by simp [HA.foot])).trans h.ob
 sl := h.sl.keep t (k _ (by simp [HA.foot, HA.lists]))
 kd := (k _ (by simp [HA.foot])).trans h.kd
 fd := (k _ (by simp [HA.foot])).trans h.fd
 fl := QQ (fun b a _ ha z => z.keep t (k _ (by simp [HA.foot, HA.lists, ha]))) h.fl
 qs := (k _ (by simp [HA.foot, HA.lists])).trans h.qs
 ql := QQ (fun b a _ ha z => (k _ (by simp [HA.foot, HA.lists, ha])).trans z) h.ql
 td := (k _ (by simp [HA.foot, HA.lists])).trans h.td
 tl := QQ (fun b a _ ha z => (k _ (by simp [HA.foot, HA.lists, ha])).trans z) h.tl
 nd := h.nd
 kf := h.kf
 asc := h.asc
 top := h.top
theorem HouseAt.there (h : HouseAt C H p A S) : ∀ b ∈ A.foot p, ∃ o, H b = some o := fun b hb => by
 have hb : b = p ∨ b = A.kd ∨ b = A.fd ∨ b = A.sl ∨ b = A.qs ∨ b = A.td ∨ b ∈ A.fl ∨ b ∈ A.ql ∨ b ∈ A.tl := by simpa [HA.foot, HA.lists] using hb
 rcases hb with e | e | e | e | e | e | e | e | e
 ·exact ⟨_, e ▸ h.ob⟩
 ·exact ⟨_, e ▸ h.kd⟩
 ·exact ⟨_, e ▸ h.fd⟩
 ·obtain ⟨vs, q, _⟩ := h.sl; exact ⟨_, e ▸ q⟩
 ·exact ⟨_, e ▸ h.qs⟩
 ·exact ⟨_, e ▸ h.td⟩
 ·obtain ⟨i, hi⟩ := List.getElem?_of_mem e
  obtain ⟨x, _, vs, q, _⟩ := QM h.fl hi
  exact ⟨_, q⟩
 ·obtain ⟨i, hi⟩ := List.getElem?_of_mem e
  obtain ⟨x, _, q⟩ := QM h.ql hi
  exact ⟨_, q⟩
 ·obtain ⟨i, hi⟩ := List.getElem?_of_mem e
  obtain ⟨x, _, q⟩ := QM h.tl hi
  exact ⟨_, q⟩
theorem HouseAt.same (h : HouseAt C H p A S) (s : Same H H') : HouseAt C H' p A S := h.keep (fun b hb => by
 obtain ⟨o, q⟩ := h.there b hb
 rw [q]; exact s _ _ q) (Tups.of_same s)
theorem HouseAt.new (h : HouseAt C H p A S) {a : Addr} {o : HO} (n : H a = none) : HouseAt C (upd H a o) p A S := h.same fun b u q => by rw [Qg (Qd q n)]; exact q
theorem HouseAt.out (h : HouseAt C H p A S) {a : Addr} (n : H a = none) : a ∉ A.foot p := fun z => by
 obtain ⟨o, q⟩ := h.there a z
 rw [n] at q; cases q
theorem HouseAt.isL (h : HouseAt C H p A S) : ∀ b ∈ A.lists, ∃ vs, H b = some (.lst vs) := fun b hb => by
 have hb : b = A.sl ∨ b = A.qs ∨ b = A.td ∨ b ∈ A.fl ∨ b ∈ A.ql ∨ b ∈ A.tl := by simpa [HA.lists] using hb
 rcases hb with e | e | e | e | e | e
 ·obtain ⟨vs, q, _⟩ := h.sl; exact ⟨_, e ▸ q⟩
 ·exact ⟨_, e ▸ h.qs⟩
 ·exact ⟨_, e ▸ h.td⟩
 ·obtain ⟨i, hi⟩ := List.getElem?_of_mem e
  obtain ⟨x, _, vs, q, _⟩ := QM h.fl hi
  exact ⟨_, q⟩
 ·obtain ⟨i, hi⟩ := List.getElem?_of_mem e
  obtain ⟨x, _, q⟩ := QM h.ql hi
  exact ⟨_, q⟩
 ·obtain ⟨i, hi⟩ := List.getElem?_of_mem e
  obtain ⟨x, _, q⟩ := QM h.tl hi
  exact ⟨_, q⟩
end
end LW
namespace LW
open PySem L2
structure Imm (H H' : Hp) : Prop where
 t : Tups H H'
 f : ∀ b o u, H b = some (.frz o u) → H' b = some (.frz o u)
theorem Imm.refl (H : Hp) : Imm H H := ⟨Tups.refl H, fun _ _ _ h => h⟩
theorem Imm.trans {H H1 H2 : Hp} (a : Imm H H1) (b : Imm H1 H2) : Imm H H2 := ⟨a.t.trans b.t, fun c o u h => b.f c o u (a.f c o u h)⟩
theorem Imm.same {H H' : Hp} (s : Same H H') : Imm H H' := ⟨Tups.of_same s, fun b _ _ h => s b _ h⟩
theorem Same.new {H : Hp} {a : Addr} {o : HO} (h : H a = none) : Same H (upd H a o) := fun b u q => by rw [Qg (Qd q h)]; exact q
theorem Imm.new {H : Hp} {a : Addr} {o : HO} (h : H a = none) : Imm H (upd H a o) := Imm.same (Same.new h)
def Mutb : HO → Prop
 | .tup _ => False
 | .frz _ _ => False
 | _ => True
theorem Imm.upd {H : Hp} {a : Addr} {o o' : HO} (h : H a = some o') (m : Mutb o') : Imm H (L2.upd H a o) := by
 refine ⟨fun b xs q => ?_, fun b x u q => ?_⟩
 ·rw [Qg]
  ·exact q
  ·rintro rfl; rw [h] at q; cases q; exact m
 ·rw [Qg]
  ·exact q
  ·rintro rfl; rw [h] at q; cases q; exact m
structure Rt where
 on : Hp → List Addr → Prop
 keep : ∀ {H H' : Hp} {F : List Addr}, on H F → (∀ b ∈ F, H' b = H b) → Imm H H' → on H' F
 there : ∀ {H : Hp} {F : List Addr}, on H F → ∀ b ∈ F, ∃ o, H b = some o
def Own (H : Hp) (W : List Rt) : Prop := ∃ Fs : List (List Addr), Paired (fun r F => r.on H F) W Fs ∧ Fs.flatten.Nodup
theorem QiU {α : Type} {Fs : List (List α)} {i : Nat} {F : List α} (h : Fs[i]? = some F) {b : α} (hb : b ∈ F) : b ∈ Fs.flatten := List.mem_flatten.mpr ⟨F, List.mem_of_getElem? h, hb⟩
def Qat {α : Type} (Fs : List (List α)) (i : Nat) : List α := (Fs.eraseIdx i).flatten
theorem QeW {α : Type} : ∀ {Fs : List (List α)} {i : Nat} {F : List α}, Fs[i]? = some F → Fs.flatten.Nodup → F.Nodup ∧ (Qat Fs i).Nodup ∧ (∀ b ∈ F, b ∉ Qat Fs i)
 | [], _, _, h, _ => by simp at h
 | F0 :: Fs, 0, F, h, nd => by
  have h : F0 = F := by simpa using h
  subst h
  rw [List.flatten_cons] at nd
  obtain ⟨a, b, c⟩ := List.nodup_append.mp nd
  exact ⟨a, b, fun x hx hy => c x hx x hy rfl⟩
 | F0 :: Fs, i + 1, F, h, nd => by
  have h : Fs[i]? = some F := by simpa using h
  rw [List.flatten_cons] at nd
  obtain ⟨a, b, c⟩ := List.nodup_append.mp nd
  obtain ⟨x1, x2, x3⟩ := QeW h b
  have sub : ∀ y ∈ Qat Fs i, y ∈ Fs.flatten := fun y hy => by
   obtain ⟨G, hG, hy⟩ := List.mem_flatten.mp hy
   exact List.mem_flatten.mpr ⟨G, List.mem_of_mem_eraseIdx hG, hy⟩
  refine ⟨x1, ?_, fun y hy hz => ?_⟩
  ·show (F0 :: Fs.eraseIdx i).flatten.Nodup
   rw [List.flatten_cons]
   exact List.nodup_append.mpr ⟨a, x2, fun p hp q hq => c p hp q (sub q hq)⟩
  ·have hz : y ∈ F0 ++ Qat Fs i := hz
   rcases List.mem_append.mp hz with z | z
   ·exact c y z y (QiU h hy) rfl
   ·exact x3 y hy z
theorem QcI {α : Type} : ∀ {Fs : List (List α)} {i : Nat} {F' : List α} {x : α}, x ∈ (Fs.set i F').flatten → x ∈ F' ∨ x ∈ Qat Fs i
 | [], _, _, _, h => by simp at h
 | G :: Gs, 0, F', x, h => by
  have h : x ∈ F' ++ Gs.flatten := h
  rcases List.mem_append.mp h with z | z
  ·exact .inl z
  ·exact .inr z
 | G :: Gs, i + 1, F', x, h => by
  have h : x ∈ G ++ (Gs.set i F').flatten := h
  rcases List.mem_append.mp h with z | z
  ·exact .inr (show x ∈ G ++ Qat Gs i from List.mem_append_left _ z)
  ·rcases QcI z with q | q
   ·exact .inl q
   ·exact .inr (show x ∈ G ++ Qat Gs i from List.mem_append_right _ q)
theorem Qf5 {α : Type} : ∀ {Fs : List (List α)} {i : Nat} {F F' : List α}, Fs[i]? = some F → F'.Nodup → (Qat Fs i).Nodup → (∀ b ∈ F', b ∉ Qat Fs i) → (Fs.set i F').flatten.Nodup
 | [], _, _, _, h, _, _, _ => by simp at h
 | F0 :: Fs, 0, F, F', h, a, b, c => by
  show (F' :: Fs).flatten.Nodup
  rw [List.flatten_cons]
  exact List.nodup_append.mpr ⟨a, b, fun x hx y hy e => c x hx (e ▸ hy)⟩
 | F0 :: Fs, i + 1, F, F', h, a, b, c => by
  have h : Fs[i]? = some F := by simpa using h
  have b : (F0 ++ Qat Fs i).Nodup := b
  obtain ⟨b1, b2, b3⟩ := List.nodup_append.mp b
  have c : ∀ x ∈ F', x ∉ F0 ++ Qat Fs i := c
  show (F0 :: Fs.set i F').flatten.Nodup
  rw [List.flatten_cons]
  refine List.nodup_append.mpr ⟨b1, Qf5 h a b2 (fun x hx z => c x hx (List.mem_append_right _ z)), fun x hx y hy e => ?_⟩
  subst e
  rcases QcI hy with z | z
  ·exact c x z (List.mem_append_left _ hx)
  ·exact b3 x hx x z rfl
theorem Qdr {α β : Type} {F G : α → β → Prop} {x : α} {y : β} : ∀ {xs : List α} {ys : List β} {i : Nat}, Paired F xs ys → G x y → (∀ (j : Nat) a b, j ≠ i → xs[j]? = some a → ys[j]? = some b → F a b → G a b) → Paired G (xs.set i x) (ys.set i y)
 | _, _, _, .nil, _, _ => .nil
 | _, _, 0, .cons _ t, g, f => .cons g (by
   have f' : ∀ (j : Nat) a b, _ → _ → F a b → G a b := fun j a b => f (j + 1) a b (by omega)
   clear f
   induction t with
   | nil => exact .nil
   | cons r s ih => exact .cons (f' 0 _ _ rfl rfl r) (ih fun j a b h1 h2 => f' (j + 1) a b (by simpa using h1) (by simpa using h2)))
 | _, _, i + 1, .cons r t, g, f => .cons (f 0 _ _ (by omega) rfl rfl r) (Qdr t g fun j a b hj h1 h2 => f (j + 1) a b (by omega) (by simpa using h1) (by simpa using h2))
section
variable {H H' : Hp} {W : List Rt} {i : Nat} {r r' : Rt} {l : Addr} {o : HO}
theorem Own.get (w : Own H W) (h : W[i]? = some r) : ∃ F, r.on H F := by
 obtain ⟨Fs, p, _⟩ := w
 obtain ⟨F, _, q⟩ := ZK p h
 exact ⟨F, q⟩
theorem Own.chg (w : Own H W) (h : W[i]? = some r) : ∃ (F G : List Addr), r.on H F ∧ F.Nodup ∧ (∀ b ∈ F, b ∉ G) ∧ (∀ b ∈ G, ∃ o, H b = some o) ∧
  ∀ (H' : Hp) (r' : Rt) (F' : List Addr), r'.on H' F' → F'.Nodup → (∀ b ∈ F', b ∈ F ∨ H b = none) → (∀ b ∈ G, H' b = H b) → Imm H H' → Own H' (W.set i r') := by
 obtain ⟨Fs, p, nd⟩ := w
 obtain ⟨F, hF, q⟩ := ZK p h
 obtain ⟨n1, n2, n3⟩ := QeW hF nd
 have th : ∀ b ∈ Qat Fs i, ∃ o, H b = some o := fun b hb => by
  obtain ⟨G, hG, hb⟩ := List.mem_flatten.mp hb
  obtain ⟨j, hj⟩ := List.getElem?_of_mem (List.mem_of_mem_eraseIdx hG)
  obtain ⟨r2, _, q2⟩ := QM p hj
  exact r2.there q2 b hb
 refine ⟨F, Qat Fs i, q, n1, n3, th, fun H' r' F' q' nd' sub kp im => ⟨Fs.set i F', Qdr p q' fun j a b hj h1 h2 z => a.keep z (fun c hc => kp c ?_) im, Qf5 hF nd' n2 fun b hb hz => ?_⟩⟩
 ·refine List.mem_flatten.mpr ⟨b, ?_, hc⟩
  exact List.mem_iff_getElem?.mpr (by
   by_cases e : j < i
   ·exact ⟨j, by rw [List.getElem?_eraseIdx_of_lt e]; exact h2⟩
   ·have e : i < j := by omega
    obtain ⟨k, rfl⟩ : ∃ k, j = k + 1 := ⟨j - 1, by omega⟩
    exact ⟨k, by rw [List.getElem?_eraseIdx_of_ge (by omega)]; exact h2⟩)
 ·rcases sub b hb with z | z
  ·exact n3 b z hz
  ·obtain ⟨u, e⟩ := th b hz
   rw [z] at e; cases e
theorem Own.same (w : Own H W) (s : Same H H') : Own H' W := by
 obtain ⟨Fs, p, nd⟩ := w
 exact ⟨Fs, QQ (fun r F _ _ z => r.keep z (fun b hb => by
  obtain ⟨o, e⟩ := r.there z b hb
  rw [e]; exact s _ _ e) (Imm.same s)) p, nd⟩
theorem Own.out (w : Own H W) (h : H l = none) : ∀ Fs, Paired (fun r F => r.on H F) W Fs → l ∉ Fs.flatten := fun Fs p z => by
 obtain ⟨F, hF, hb⟩ := List.mem_flatten.mp z
 obtain ⟨j, hj⟩ := List.getElem?_of_mem hF
 obtain ⟨r, _, q⟩ := QM p hj
 obtain ⟨o, e⟩ := r.there q l hb
 rw [h] at e; cases e
theorem Own.new (w : Own H W) (h : H l = none) (n : r.on (upd H l o) [l]) : Own (upd H l o) (r :: W) := by
 have w2 := w
 obtain ⟨Fs, p, nd⟩ := w
 have ho := w2.out h Fs p
 refine ⟨[l] :: Fs, .cons n (QQ (fun r F _ hF z => r.keep z (fun b hb => Qg fun e => ?_) (Imm.new h)) p), ?_⟩
 ·subst e
  exact ho (List.mem_flatten.mpr ⟨F, hF, hb⟩)
 ·show (l :: Fs.flatten).Nodup
  exact List.nodup_cons.mpr ⟨ho, nd⟩
theorem Own.imm (w : Own H W) (n : r.on H []) : Own H (r :: W) := by
 obtain ⟨Fs, p, nd⟩ := w
 exact ⟨[] :: Fs, .cons n p, by simpa using nd⟩
theorem Own.nil (H : Hp) : Own H [] := ⟨[], .nil, by simp⟩
theorem QjA {α β : Type} {F : α → β → Prop} {xs xs' : List α} (h : xs.Perm xs') : ∀ {ys : List β}, Paired F xs ys → ∃ ys', Paired F xs' ys' ∧ ys.Perm ys' := by
 induction h with
 | nil => intro ys p; exact ⟨ys, p, .refl _⟩
 | cons x _ ih =>
  intro ys p
  cases p with
  | cons r t =>
   obtain ⟨ys', p', q⟩ := ih t
   exact ⟨_, .cons r p', q.cons _⟩
 | swap x y l =>
  intro ys p
  cases p with
  | cons r t =>
   cases t with
   | cons r2 t2 => exact ⟨_, .cons r2 (.cons r t2), .swap _ _ _⟩
 | trans _ _ ih1 ih2 =>
  intro ys p
  obtain ⟨y1, p1, q1⟩ := ih1 p
  obtain ⟨y2, p2, q2⟩ := ih2 p1
  exact ⟨y2, p2, q1.trans q2⟩
theorem Own.perm {W' : List Rt} (w : Own H W) (h : W.Perm W') : Own H W' := by
 obtain ⟨Fs, p, nd⟩ := w
 obtain ⟨Fs', p', q⟩ := QjA h p
 exact ⟨Fs', p', (List.Perm.flatten q).nodup_iff.mp nd⟩
end
def Qah (C p : Addr) (S : HS) : Rt where
 on H F := ∃ A, HouseAt C H p A S ∧ F = A.foot p
 keep := by
  rintro H H' F ⟨A, h, rfl⟩ k im
  exact ⟨A, h.keep k im.t, rfl⟩
 there := by
  rintro H F ⟨A, h, rfl⟩ b hb
  exact h.there b hb
def Qiy (a : Addr) (vs : List V) : Rt where
 on H F := H a = some (.lst vs) ∧ F = [a]
 keep := by
  rintro H H' F ⟨h, rfl⟩ k im
  exact ⟨(k a (by simp)).trans h, rfl⟩
 there := by
  rintro H F ⟨h, rfl⟩ b hb
  obtain rfl : b = a := by simpa using hb
  exact ⟨_, h⟩
def QfT (a : Addr) (ts : List T) : Rt where
 on H F := ThL H ts a ∧ F = [a]
 keep := by
  rintro H H' F ⟨h, rfl⟩ k im
  exact ⟨h.keep im.t (k a (by simp)), rfl⟩
 there := by
  rintro H F ⟨⟨vs, h, _⟩, rfl⟩ b hb
  obtain rfl : b = a := by simpa using hb
  exact ⟨_, h⟩
def Qgx (a : Addr) (xss : List (List Int)) : Rt where
 on H F := ∃ al, H a = some (.lst (al.map V.ref)) ∧ Paired (Qix H) xss al ∧ F = a :: al
 keep := by
  rintro H H' F ⟨al, h, p, rfl⟩ k im
  exact ⟨al, (k a (by simp)).trans h, QQ (fun x b _ hb z => (k b (by simp [hb])).trans z) p, rfl⟩
 there := by
  rintro H F ⟨al, h, p, rfl⟩ b hb
  rcases List.mem_cons.mp hb with rfl | hb
  ·exact ⟨_, h⟩
  ·obtain ⟨j, hj⟩ := List.getElem?_of_mem hb
   obtain ⟨x, _, z⟩ := QM p hj
   exact ⟨_, z⟩
def Qd4 (ak ar : Addr) (bs : List Box) : Rt where
 on H F := ∃ fl, H ak = some (.dK (Qr bs)) ∧ H ar = some (.dK (Ql bs fl)) ∧ Paired (fun b a => ThL H b.row a) bs fl ∧ F = ak :: ar :: fl
 keep := by
  rintro H H' F ⟨fl, h1, h2, p, rfl⟩ k im
  exact ⟨fl, (k ak (by simp)).trans h1, (k ar (by simp)).trans h2, QQ (fun x b _ hb z => z.keep im.t (k b (by simp [hb]))) p, rfl⟩
 there := by
  rintro H F ⟨fl, h1, h2, p, rfl⟩ b hb
  have hb : b = ak ∨ b = ar ∨ b ∈ fl := by simpa using hb
  rcases hb with rfl | rfl | hb
  ·exact ⟨_, h1⟩
  ·exact ⟨_, h2⟩
  ·obtain ⟨j, hj⟩ := List.getElem?_of_mem hb
   obtain ⟨x, _, vs, z, _⟩ := QM p hj
   exact ⟨_, z⟩
def QfZ (a : Addr) (vs : List V) : Rt where
 on H F := H a = some (.tup vs) ∧ F = []
 keep := by
  rintro H H' F ⟨h, rfl⟩ k im
  exact ⟨im.t _ _ h, rfl⟩
 there := by
  rintro H F ⟨h, rfl⟩ b hb
  simp at hb
end LW
namespace LW
open PySem L2
theorem Qjh {c A B : Prop} [Decidable c] (hc : ¬ c) (h : B) : if decide c = true then A else B := by rw [decide_eq_false hc]; exact Qbc h
theorem iteY {c A B : Prop} [Decidable c] (hc : c) (h : A) : if decide c = true then A else B := by rw [decide_eq_true hc]; exact Qcm h
theorem iteB {b : Bool} {A B : Prop} (e : b = false) (h : B) : if b = true then A else B := by rw [e]; exact Qbc h
theorem QdG {k : Str} {v : V} {r : List (Str × V)} : List.lookup k ((k, v) :: r) = some v := by simp [List.lookup_cons]
theorem QT {k k' : Str} {v : V} {r : List (Str × V)} (h : (k == k') = false) : List.lookup k ((k', v) :: r) = List.lookup k r := by simp [List.lookup_cons, h]
section
variable {A : HA} {S : HS}
theorem QjQ : (Qaq A S).lookup ("room" : Str) = some (V.int S.room) := QdG
theorem Qco : (Qaq A S).lookup ("slots" : Str) = some (V.ref A.sl) := (QT (by decide +kernel)).trans QdG
theorem Qid : (Qaq A S).lookup ("last_name" : Str) = some (V.int S.last) := (QT (by decide +kernel)).trans ((QT (by decide +kernel)).trans QdG)
theorem QbF : (Qaq A S).lookup ("kinds" : Str) = some (V.ref A.kd) := (QT (by decide +kernel)).trans ((QT (by decide +kernel)).trans ((QT (by decide +kernel)).trans QdG))
theorem QaR : (Qaq A S).lookup ("fields" : Str) = some (V.ref A.fd) := (QT (by decide +kernel)).trans ((QT (by decide +kernel)).trans ((QT (by decide +kernel)).trans ((QT (by decide +kernel)).trans QdG)))
theorem QdL : (Qaq A S).lookup ("queues" : Str) = some (V.ref A.qs) := (QT (by decide +kernel)).trans ((QT (by decide +kernel)).trans ((QT (by decide +kernel)).trans ((QT (by decide +kernel)).trans ((QT (by decide +kernel)).trans QdG))))
theorem QjP : (Qaq A S).lookup ("told" : Str) = some (V.ref A.td) := (QT (by decide +kernel)).trans ((QT (by decide +kernel)).trans ((QT (by decide +kernel)).trans ((QT (by decide +kernel)).trans ((QT (by decide +kernel)).trans ((QT (by decide +kernel)).trans QdG)))))
def Qjg (m : Str) : Bool := (["room", "slots", "last_name", "kinds", "fields", "queues", "told"] : List Str).all fun x => !(m == x)
theorem Qx {m : Str} (h : Qjg m = true) : (Qaq A S).lookup m = none := by
 simp only [Qjg, List.all_cons, List.all_nil, Bool.and_true, Bool.and_eq_true, Bool.not_eq_true'] at h
 obtain ⟨h1, h2, h3, h4, h5, h6, h7⟩ := h
 exact (QT h1).trans ((QT h2).trans ((QT h3).trans ((QT h4).trans ((QT h5).trans ((QT h6).trans ((QT h7).trans rfl))))))
end
structure HTxt (K : PySem.W.Frag) (mg : Str → Option Value) (C : Addr) : Prop where
 cl : Cls K C
 n_room : NoAttr K C "room"
 n_slots : NoAttr K C "slots"
 n_last : NoAttr K C "last_name"
 n_kinds : NoAttr K C "kinds"
 n_fields : NoAttr K C "fields"
 n_queues : NoAttr K C "queues"
 n_told : NoAttr K C "told"
 g_house : mg "House" = some (.ref C)
 g_len : mg "len" = none
 g_sorted : mg "sorted" = none
 g_range : mg "range" = none
 g_list : mg "list" = none
 g_isi : mg "isinstance" = none
 g_guards : ∃ t, mg "GUARDS" = some (.int 4 t)
def MethOk (P : Program) (w : World) (K : PySem.W.Frag) (mg : Str → Option Value) (base : Heap) (C : Addr) (k : Nat) (m : Str) (ps : List Str) (sp : Sp) (dss : List (List Value)) : Prop :=
 ∃ f fd, Meth K C m f ∧ FnOk P w K mg base CX0 k f fd ps sp ∧ ∀ ds ∈ dss, Binds K fd ps ds
def DefOk (P : Program) (w : World) (K : PySem.W.Frag) (mg : Str → Option Value) (base : Heap) (k : Nat) (x : Str) (ps : List Str) (sp : Sp) (dss : List (List Value)) : Prop :=
 ∃ f fd, mg x = some (.ref f) ∧ PySem.W.keepIn K (.ref f) = true ∧ FnOk P w K mg base CX0 k f fd ps sp ∧ ∀ ds ∈ dss, Binds K fd ps ds
section
variable {P : Program} {w : World} {K : PySem.W.Frag} {mg : Str → Option Value} {base : Heap} {C : Addr}
def QaC (C : Addr) : Sp := fun vs H Q _ => ∃ p A S i, vs = [.ref p, .int i] ∧ HouseAt C H p A S ∧ 0 ≤ i ∧ i < S.slots.length ∧ Q .non H
end
end LW
namespace LW
open PySem L2
section
variable {C : Addr} {H : Hp} {p : Addr} {A : HA} {S : HS}
theorem Zv (bs : List Box) : (Qr bs).map (·.1) = (bs.map (·.name)).map fun n => (Sum.inl n : Key) := by
 simp [Qr, List.map_map, Function.comp_def]
theorem Qae {bs : List Box} {fl : List Addr} (h : bs.length = fl.length) : (Ql bs fl).map (·.1) = (bs.map (·.name)).map fun n => (Sum.inl n : Key) := by
 unfold Ql
 rw [List.map_map, List.map_map]
 have : ((fun x : Key × V => x.1) ∘ fun q : Box × Addr => ((Sum.inl q.1.name : Key), V.ref q.2)) = (fun b : Box => (Sum.inl b.name : Key)) ∘ Prod.fst := rfl
 rw [this, ← List.map_map, List.map_fst_zip (by omega)]
 rfl
theorem QdE {l : List Int} (h : l.Nodup) : (l.map fun n => (Sum.inl n : Key)).Nodup := by
 induction l with
 | nil => exact List.nodup_nil
 | cons a r ih =>
  obtain ⟨h1, h2⟩ := List.nodup_cons.mp h
  rw [List.map_cons]
  refine List.nodup_cons.mpr ⟨fun m => h1 ?_, ih h2⟩
  obtain ⟨b, hb, e⟩ := List.mem_map.mp m
  rw [← Sum.inl.inj e]; exact hb
theorem HouseAt.ndK (h : HouseAt C H p A S) : ((Qr S.boxes).map (·.1)).Nodup := by rw [Zv]; exact QdE h.nm
theorem HouseAt.ndF (h : HouseAt C H p A S) : ((Ql S.boxes A.fl).map (·.1)).Nodup := by rw [Qae (QB h.fl)]; exact QdE h.nm
theorem HouseAt.kindAt (h : HouseAt C H p A S) {i : Nat} {b : Box} (e : S.boxes[i]? = some b) : QbP (Qr S.boxes) (Sum.inl b.name) = some (.str b.kind) := by
 refine Qda h.ndK (i := i) ?_
 simp [Qr, e]
theorem HouseAt.rowAt (h : HouseAt C H p A S) {i : Nat} {b : Box} (e : S.boxes[i]? = some b) : ∃ a ws, A.fl[i]? = some a ∧ H a = some (.lst ws) ∧ Ths H b.row ws ∧ QbP (Ql S.boxes A.fl) (Sum.inl b.name) = some (.ref a) := by
 obtain ⟨a, ha, ws, hw, ht⟩ := ZK h.fl e
 refine ⟨a, ws, ha, hw, ht, Qda h.ndF (i := i) ?_⟩
 unfold Ql
 rw [List.getElem?_map, List.getElem?_zip_eq_some.mpr (show S.boxes[i]? = some (b, a).1 ∧ A.fl[i]? = some (b, a).2 from ⟨e, ha⟩)]
 rfl
theorem HouseAt.noName (h : HouseAt C H p A S) {n : Int} (e : ¬ n ∈ S.boxes.map (·.name)) : QbP (Qr S.boxes) (Sum.inl n) = none := by
 refine Qbw ?_
 rw [Zv]
 intro m
 obtain ⟨b, hb, q⟩ := List.mem_map.mp m
 rw [Sum.inl.inj q] at hb
 exact e hb
end
section
variable {P : Program} {w : World} {K : PySem.W.Frag} {mg : Str → Option Value} {base : Heap} {C : Addr}
def QaL (C : Addr) : Sp := fun vs H Q _ => ∃ p i, vs = [.ref p, .int i] ∧ 0 ≤ i ∧ i < 4 ∧ Q .non H
def Z7 (C : Addr) : Sp := fun vs H Q _ => ∃ p A S n, vs = [.ref p, .int n] ∧ HouseAt C H p A S ∧ n ∈ S.boxes.map (·.name) ∧ Q .non H
def Qbg (C : Addr) : Sp := fun vs H Q _ => ∃ (p : Addr) (A : HA) (S : HS) (i : Nat) (b : Box) (at_ : Int), vs = [.ref p, .int b.name, .int at_] ∧ HouseAt C H p A S ∧ S.boxes[i]? = some b ∧ 0 ≤ at_ ∧ at_ < b.row.length ∧ Q .non H
def Qb5 (C : Addr) : Sp := fun vs H Q _ => ∃ (p : Addr) (A : HA) (S : HS) (n : Int), vs = [.ref p, .int n] ∧ HouseAt C H p A S ∧ Q (.bl (decide ((S.boxes.length : Int) + n ≤ S.room))) H
def QbU (C : Addr) : Sp := fun vs H Q _ => ∃ (p : Addr) (A : HA) (S : HS) (n : Int) (v : V), vs = [.ref p, .int n, v] ∧ HouseAt C H p A S ∧ (S.boxes.length : Int) + n ≤ S.room ∧ Q .non H
def names (S : HS) : List Int := S.boxes.map (·.name)
theorem perm_asc : ∀ {a b : List Int}, a.Perm b → a.Pairwise (· ≤ ·) → b.Pairwise (· < ·) → a = b
 | [], b, h, _, _ => (List.nil_perm.mp h).symm
 | x :: a, [], h, _, _ => by simpa using h.length_eq
 | x :: a, y :: b, h, h1, h2 => by
  have e : x = y := by
   obtain ⟨p1, _⟩ := List.pairwise_cons.mp h1
   obtain ⟨p2, _⟩ := List.pairwise_cons.mp h2
   have m1 : x ∈ y :: b := h.mem_iff.mp List.mem_cons_self
   have m2 : y ∈ x :: a := h.mem_iff.mpr List.mem_cons_self
   rcases List.mem_cons.mp m1 with q | q
   ·exact q
   ·have l1 := p2 x q
    rcases List.mem_cons.mp m2 with r | r
    ·exact r.symm
    ·have l2 := p1 y r
     omega
  subst e
  rw [perm_asc ((List.perm_cons x).mp h) (List.pairwise_cons.mp h1).2 (List.pairwise_cons.mp h2).2]
def Qgp (C : Addr) : Sp := fun vs H Q _ => ∃ (p : Addr) (A : HA) (S : HS) (i : Nat) (b : Box), vs = [.ref p, .int b.name] ∧ HouseAt C H p A S ∧ S.boxes[i]? = some b ∧ Q (.str b.kind) H
theorem Qc8 {S : HS} {i : Nat} {b : Box} (h : S.boxes[i]? = some b) : b.name ∈ S.boxes.map (·.name) := List.mem_map.mpr ⟨b, List.mem_of_getElem? h, rfl⟩
def Qgn (C : Addr) : Sp := fun vs H Q _ => ∃ (p : Addr) (A : HA) (S : HS) (i : Nat) (b : Box), vs = [.ref p, .int b.name] ∧ HouseAt C H p A S ∧ S.boxes[i]? = some b ∧ Q (.int b.row.length) H
def QeC (C : Addr) : Sp := fun vs H Q _ => ∃ (p : Addr) (A : HA) (S : HS) (i : Nat) (b : Box) (j : Nat) (t : T), vs = [.ref p, .int b.name, .int j] ∧ HouseAt C H p A S ∧ S.boxes[i]? = some b ∧ b.row[j]? = some t ∧ ∀ v, isT H t v → Q v H
def Qja (C : Addr) : Sp := fun vs H Q _ => ∃ (p : Addr) (A : HA) (S : HS) (j : Nat) (t : T), vs = [.ref p, .int j] ∧ HouseAt C H p A S ∧ S.slots[j]? = some t ∧ ∀ v, isT H t v → Q v H
def Qff (C : Addr) : Sp := fun vs H Q _ => ∃ (p : Addr) (A : HA) (S : HS) (g : Nat) (ns : List Int), vs = [.ref p, .int g] ∧ HouseAt C H p A S ∧ g < 4 ∧ S.queues[g]? = some ns ∧ ∀ l, H l = none → Q (.ref l) (upd H l (.lst (ns.map V.int)))
end
end LW
namespace LW
open PySem L2
def Qap (kind : Str) (size : Int) : Int := if kind = "weak" then 1 else if kind = "pair" then 2 else size
def HS.built (S : HS) (kind : Str) (n : Nat) : HS := { S with last := S.last + 1, boxes := S.boxes ++ [(⟨S.last + 1, kind, List.replicate n .non⟩ : Box)] }
theorem QfD (A : HA) (S : HS) (z : Int) : QcU "last_name" (.int z) (Qaq A S) = Qaq A { S with last := z } := by
 have n1 : ¬ (("room" : Str) = "last_name") := by decide +kernel
 have n2 : ¬ (("slots" : Str) = "last_name") := by decide +kernel
 simp only [Qaq, QcU, if_neg n1, if_neg n2, if_pos]
theorem Qh1 {l : Addr} {a b r : List Addr} (h : (a ++ b ++ r).Nodup) (hl : l ∉ a ++ b ++ r) : (a ++ (b ++ [l]) ++ r).Nodup := by
 have e : a ++ (b ++ [l]) ++ r = (a ++ b) ++ l :: r := by simp
 rw [e, List.perm_middle.nodup_iff]
 exact List.nodup_cons.mpr ⟨hl, h⟩
theorem HouseAt.built {C : Addr} {H H' : Hp} {p : Addr} {A : HA} {S : HS} {l : Addr} {kind : Str} {n : Nat} (h : HouseAt C H p A S) (h1 : H' p = some (.ins C A.dx (Qaq A { S with last := S.last + 1 })))
  (h2 : H' A.kd = some (.dK (Qr S.boxes ++ [((Sum.inl (S.last + 1) : Key), V.str kind)]))) (h3 : H' A.fd = some (.dK (Ql S.boxes A.fl ++ [((Sum.inl (S.last + 1) : Key), V.ref l)]))) (h4 : H' l = some (.lst (List.replicate n .non)))
  (hl : l ∉ A.lists) (hk : ∀ b ∈ A.lists, H' b = H b) (ht : Tups H H') : HouseAt C H' p { A with fl := A.fl ++ [l] } (S.built kind n) where
 ob := h1
 sl := h.sl.keep ht (hk _ (by simp [HA.lists]))
 kd := by rw [h2]; simp [Qr, HS.built]
 fd := by
  rw [h3]
  show _ = some (HO.dK (((S.boxes ++ [(⟨S.last + 1, kind, List.replicate n .non⟩ : Box)]).zip (A.fl ++ [l])).map _))
  rw [List.zip_append (QB h.fl)]
  simp [Ql]
 fl := Qaj (QQ (fun b a _ ha z => z.keep ht (hk _ (by simp [HA.lists, ha]))) h.fl) (.cons ⟨_, h4, QhS (show isT H' .non .non from rfl) n⟩ .nil)
 qs := (hk _ (by simp [HA.lists])).trans h.qs
 ql := QQ (fun b a _ ha z => (hk _ (by simp [HA.lists, ha])).trans z) h.ql
 td := (hk _ (by simp [HA.lists])).trans h.td
 tl := QQ (fun b a _ ha z => (hk _ (by simp [HA.lists, ha])).trans z) h.tl
 nd := by
  have e : HA.lists A = [A.sl, A.qs, A.td] ++ A.fl ++ (A.ql ++ A.tl) := by simp [HA.lists]
  have e2 : HA.lists { A with fl := A.fl ++ [l] } = [A.sl, A.qs, A.td] ++ (A.fl ++ [l]) ++ (A.ql ++ A.tl) := by simp [HA.lists]
  have nd := h.nd
  rw [e] at nd hl
  rw [e2]
  exact Qh1 nd hl
 kf := h.kf
 asc := by
  show ((S.boxes ++ [(⟨S.last + 1, kind, List.replicate n .non⟩ : Box)]).map (·.name)).Pairwise (· < ·)
  rw [List.map_append, List.pairwise_append]
  refine ⟨h.asc, List.pairwise_singleton _ _, fun x hx y hy => ?_⟩
  obtain ⟨b, hb, rfl⟩ := List.mem_map.mp hx
  have hy : y = S.last + 1 := by simpa using hy
  have := h.top b hb
  omega
 top := fun b hb => by
  have hb : b ∈ S.boxes ++ [(⟨S.last + 1, kind, List.replicate n .non⟩ : Box)] := hb
  show b.name ≤ S.last + 1
  rcases List.mem_append.mp hb with q | q
  ·have := h.top b q; omega
  ·have q : b = ⟨S.last + 1, kind, List.replicate n .non⟩ := by simpa using q
   subst q
   exact Int.le_refl _
def QiV : List (Key × V) := [(Sum.inr "weak", .int 1), (Sum.inr "pair", .int 2)]
theorem Qig (kind : Str) (size : Int) : (QbP QiV (Sum.inr kind)).getD (.int size) = V.int (Qap kind size) := by
 unfold QiV Qap
 by_cases h1 : kind = "weak"
 ·subst h1
  rw [Qbv rfl, if_pos rfl]
  rfl
 ·rw [Qbx (fun e => h1 (Sum.inr.inj e).symm), if_neg h1]
  by_cases h2 : kind = "pair"
  ·subst h2
   rw [Qbv rfl, if_pos rfl]
   rfl
  ·rw [Qbx (fun e => h2 (Sum.inr.inj e).symm), if_neg h2]
   rfl
theorem QgK (n : Nat) : (List.replicate n [V.non]).flatten = List.replicate n V.non := by
 induction n with
 | zero => rfl
 | succ n ih => rw [List.replicate_succ, List.flatten_cons, ih, List.replicate_succ]; rfl
section
variable {P : Program} {w : World} {K : PySem.W.Frag} {mg : Str → Option Value} {base : Heap} {C : Addr}
def Out (C : Addr) (H : Hp) (p : Addr) (A : HA) (S' : HS) (Q : V → Hp → Prop) (v : V) : Prop := ∀ A' H', HouseAt C H' p A' S' → Frame (A.foot p) H H' → Tups H H' → Grown (A.foot p) (A'.foot p) H → Q v H'
def QaN : Sp := fun vs H Q _ => ∃ n, vs = [.int n] ∧ ∀ a, H a = none → Q (.ref a) (upd H a (.tup [.str "box", .int n]))
theorem HouseAt.setSlot {H : Hp} {p : Addr} {A : HA} {S : HS} {ws : List V} {j : Nat} {t : T} {v : V} (h : HouseAt C H p A S) (hw : H A.sl = some (.lst ws)) (ht : Ths H S.slots ws) (tv : isT H t v) :
  HouseAt C (upd H A.sl (.lst (ws.set j v))) p A { S with slots := S.slots.set j t } := by
 have tu : Tups H (upd H A.sl (.lst (ws.set j v))) := Tups.upd hw (by intro xs z; cases z)
 have nd : A.sl ∉ A.qs :: A.td :: (A.fl ++ (A.ql ++ A.tl)) := (List.nodup_cons.mp h.nd).1
 have ne : ∀ b ∈ A.qs :: A.td :: (A.fl ++ (A.ql ++ A.tl)), b ≠ A.sl := fun b hb e => nd (e ▸ hb)
 refine ⟨?_, ⟨_, Qb, Ths.keep tu (Qgz tv j ht)⟩, ?_, ?_, QQ (fun b a _ ha z => z.keep tu (Qg (ne _ (by simp [ha])))) h.fl, ?_, QQ (fun b a _ ha z => (Qg (ne _ (by simp [ha]))).trans z) h.ql, ?_,
  QQ (fun b a _ ha z => (Qg (ne _ (by simp [ha]))).trans z) h.tl, h.nd, h.kf, h.asc, h.top⟩
 ·rw [Qg (QE h.ob hw (by intro z; cases z))]; exact h.ob
 ·rw [Qg (QE h.kd hw (by intro z; cases z))]; exact h.kd
 ·rw [Qg (QE h.fd hw (by intro z; cases z))]; exact h.fd
 ·rw [Qg (ne _ (by simp))]; exact h.qs
 ·rw [Qg (ne _ (by simp))]; exact h.td
def HS.made (S : HS) (kind : Str) (n slot : Nat) : HS := { S.built kind n with slots := S.slots.set slot (.box (S.last + 1)) }
def QhB (C : Addr) : Sp := fun vs H Q _ => ∃ (p : Addr) (A : HA) (S : HS) (kind : Str) (size : Int) (slot : Nat), vs = [.ref p, .str kind, .int size, .int slot] ∧ HouseAt C H p A S ∧ 0 ≤ Qap kind size ∧ Qap kind size ≤ 1000 ∧ S.boxes.length ≤ 1000 ∧ (S.boxes.length : Int) < S.room ∧
 slot < S.slots.length ∧ Out C H p A (S.made kind (Qap kind size).toNat slot) Q (.int (S.last + 1))
def Qgs (C : Addr) : Sp := fun vs H Q _ => ∃ (p : Addr) (A : HA) (S : HS) (kind : Str) (n slot : Nat) (ad at_ al : Addr), vs = [.ref p, .ref ad, .int slot] ∧ HouseAt C H p A S ∧ H ad = some (.lst [.ref at_]) ∧ H at_ = some (.tup [.str kind, .ref al]) ∧
 H al = some (.lst (List.replicate n .non)) ∧ n ≤ 1000 ∧ S.boxes.length ≤ 1000 ∧ (S.boxes.length : Int) < S.room ∧ slot < S.slots.length ∧ Out C H p A (S.made kind n slot) Q (.int (S.last + 1))
theorem Qcy {n j : Nat} (h : j < n) : ixN n (j : Int) = some j := by
 unfold ixN
 rw [if_pos (by omega), if_pos (by omega)]
 simp
end
end LW
namespace LW
open PySem L2
def QeA (l : List Stmt) (i : Nat) : Stmt := l.getD i (.Pass ⟨0, 0, 0, 0⟩)
def Qbu : Stmt → Expr
 | .Assign _ v _ => v
 | _ => .Constant .none 0 ⟨0, 0, 0, 0⟩
def Qgv : Stmt → Expr
 | .Return (some v) _ => v
 | _ => .Constant .none 0 ⟨0, 0, 0, 0⟩
def QjX (i : Nat) : Expr → Expr
 | .Call _ args _ _ => args.getD i (.Constant .none 0 ⟨0, 0, 0, 0⟩)
 | _ => .Constant .none 0 ⟨0, 0, 0, 0⟩
def Qe3 : Stmt → List Stmt
 | .For _ _ b _ _ => b
 | _ => []
def Q5 : Expr → Scope
 | .ListComp _ _ sc _ => sc
 | _ => { kind := .function, names := [], isGenerator := false, isCoroutine := false }
theorem comp4 {σ : St} {H : Hp} {Q : VK} (k : ∀ (as : List Addr) (H' : Hp), as.length = 4 → as.Nodup → (∀ a ∈ as, H a = none ∧ H' a = some (.lst [])) → Same H H' → ∀ p, H' p = none → Q (.ref p) (upd H' p (.lst (as.map V.ref)))) :
  Qjo (iRng1 (QgT (tC (.int 4)) QiD)) [] Qb3 (Qjm QiD) σ H Q := by
 refine ⟨4, rfl, by decide, by decide, QaB (lo := 0) (n := 4) (fun i ys H' => ∃ as : List Addr, ys = as.map V.ref ∧ as.length = i ∧ as.Nodup ∧ (∀ a ∈ as, H a = none ∧ H' a = some (.lst [])) ∧ Same H H')
  ⟨[], rfl, rfl, List.nodup_nil, by simp, Same.refl _⟩ ?_ (by decide) ?_ ?_⟩
 ·rintro i ys H' ⟨as, rfl, hl, _⟩
  rw [List.length_map]; omega
 ·rintro i ys H' hi ⟨as, rfl, hl, nd, ha, hs⟩
  dsimp only [Qb3]
  refine Qcm ⟨by decide, fun p hp => ⟨as ++ [p], by simp, by simp [hl], ?_, fun a ha' => ?_, fun b o q => ?_⟩⟩
  ·refine QdD nd fun m => ?_
   rw [(ha p m).2] at hp; cases hp
  ·rcases List.mem_append.mp ha' with q | q
   ·exact ⟨(ha a q).1, by rw [Qg (Qd (ha a q).2 hp)]; exact (ha a q).2⟩
   ·have q : a = p := by simpa using q
    subst q
    exact ⟨hs.free hp, Qb⟩
  ·rw [Qg (Qd (hs b o q) hp)]
   exact hs b o q
 ·rintro ys H' ⟨as, rfl, hl, nd, ha, hs⟩ p hp
  exact k as H' hl nd ha hs p hp
def HS.empty (room : Int) (n : Nat) : HS := ⟨room, List.replicate n .non, 0, [], [[], [], [], []], [[], [], [], []]⟩
theorem Qib (room : Int) (sl kd fd qs td : Addr) : QcU "told" (V.ref td) (QcU "queues" (V.ref qs) (QcU "fields" (V.ref fd) (QcU "kinds" (V.ref kd) (QcU "last_name" (V.int 0) (QcU "slots" (V.ref sl) (QcU "room" (V.int room) [])))))) =
  ([("room", .int room), ("slots", .ref sl), ("last_name", .int 0), ("kinds", .ref kd), ("fields", .ref fd), ("queues", .ref qs), ("told", .ref td)] : List (Str × V)) := by kernel_rfl
theorem QhX {α β : Type} {F : α → β → Prop} {x : α} {l : List β} (hl : l.length = 4) (h : ∀ y ∈ l, F x y) : Paired F [x, x, x, x] l := by
 match l, hl, h with
 | [a, b, c, d], _, h => exact .cons (h a (by simp)) (.cons (h b (by simp)) (.cons (h c (by simp)) (.cons (h d (by simp)) .nil)))
theorem QdI {p b : Addr} {H : Hp} {o u : HO} (h : H b = some u) (n : b ≠ p) : upd H p o b = some u := by rw [Qg n]; exact h
theorem Zt {a b : Addr} {H : Hp} {o u : HO} (h : H b = some u) (n : H a = none) : upd H a o b = some u := by rw [Qg (Qd h n)]; exact h
theorem Qau {a b : Addr} {H : Hp} {o : HO} (h : upd H a o b = none) : H b = none := by
 have : b ≠ a := fun e => by subst e; rw [Qb] at h; cases h
 rw [Qg this] at h
 exact h
section
variable {P : Program} {w : World} {K : PySem.W.Frag} {mg : Str → Option Value} {base : Heap} {C : Addr}
def Qi8 (C : Addr) : Sp := fun vs H Q _ => ∃ (p dx : Addr) (room n : Int), vs = [.ref p, .int room, .int n] ∧ H p = some (.ins C dx []) ∧ 0 ≤ n ∧ n ≤ 1000 ∧
 ∀ A' H', HouseAt C H' p A' (HS.empty room n.toNat) → Frame [p] H H' → Tups H H' → Grown [p] (A'.foot p) H → Q .non H'
end
end LW
namespace LW
open PySem L2
def Scr (K : PySem.W.Frag) (H : Hp) (a : Addr) (ns : List Int) : Prop :=
 (∃ o, H a = some (.frz o (.lst (ns.map V.int)))) ∨
  ∃ (o : Obj) (its : Array Value) (n : Nat), K.lookup a = some o ∧ o.cls = .type "list" ∧ o.dict = none ∧ o.data = .seq its n ∧ its.size ≤ sizeLine ∧ Vals (ns.map V.int) its.toList
theorem Scr.sq {K : PySem.W.Frag} {H : Hp} {a : Addr} {ns : List Int} (h : Scr K H a ns) : SqL K H a (ns.map V.int) := by
 rcases h with ⟨o, h⟩ | h
 ·exact .inl (.inr ⟨o, h⟩)
 ·exact .inr h
theorem Scr.of {K : PySem.W.Frag} {H : Hp} {a : Addr} {ns : List Int} (hO : Only H) (h : SqL K H a (ns.map V.int)) : Scr K H a ns := by
 rcases h with (h | ⟨o, h⟩) | h
 ·rcases hO a with z | ⟨o, xs, z⟩
  ·rw [h] at z; cases z
  ·rw [h] at z; cases z
 ·exact .inl ⟨o, h⟩
 ·exact .inr h
def Frz (H H' : Hp) : Prop := ∀ b o u, H b = some (.frz o u) → H' b = some (.frz o u)
theorem Frz.refl (H : Hp) : Frz H H := fun _ _ _ h => h
theorem Frz.trans {H H1 H2 : Hp} (a : Frz H H1) (b : Frz H1 H2) : Frz H H2 := fun c o u h => b c o u (a c o u h)
theorem Frz.of_same {H H' : Hp} (s : Same H H') : Frz H H' := fun b _ _ h => s b _ h
theorem Frz.new {H : Hp} {a : Addr} {o : HO} (h : H a = none) : Frz H (upd H a o) := fun b _ _ q => by rw [Qg (Qd q h)]; exact q
theorem Frz.upd {H : Hp} {a : Addr} {o o' : HO} (h : H a = some o') (n : ∀ x u, o' ≠ .frz x u) : Frz H (L2.upd H a o) := fun b x u q => by
 rw [Qg]
 ·exact q
 ·rintro rfl
  rw [h] at q
  cases q
  exact n x u rfl
theorem Scr.keep {K : PySem.W.Frag} {H H' : Hp} {a : Addr} {ns : List Int} (f : Frz H H') (h : Scr K H a ns) : Scr K H' a ns := by
 rcases h with ⟨o, h⟩ | h
 ·exact .inl ⟨o, f _ _ _ h⟩
 ·exact .inr h
theorem HouseAt.frz {C : Addr} {H H' : Hp} {p : Addr} {A : HA} {S : HS} (h : HouseAt C H p A S) (f : Frame (A.foot p) H H') : Frz H H' := fun b o u q => f b _ q fun m => by
 have m : b = p ∨ b = A.kd ∨ b = A.fd ∨ b ∈ A.lists := by simpa [HA.foot] using m
 rcases m with e | e | e | e
 ·subst e; rw [h.ob] at q; cases q
 ·subst e; rw [h.kd] at q; cases q
 ·subst e; rw [h.fd] at q; cases q
 ·obtain ⟨vs, z⟩ := h.isL b e
  rw [z] at q; cases q
structure LTxt (K : PySem.W.Frag) (mg : Str → Option Value) : Prop where
 g_len : mg "len" = none
 g_range : mg "range" = none
 g_list : mg "list" = none
 g_isi : mg "isinstance" = none
 g_int : mg "int" = none
 g_bool : mg "bool" = none
 g_tuple : mg "tuple" = none
 g_str : mg "str" = none
 g_sorted : mg "sorted" = none
 g_enumerate : mg "enumerate" = none
 s_ib : PySem.W.subIn K (.type "int") (.type "bool") = some false
 s_it : PySem.W.subIn K (.type "int") (.type "tuple") = some false
theorem Qaw (K : PySem.W.Frag) (n : String) : PySem.W.kitOne K (.type n) (.type n) = some true := by
 unfold PySem.W.kitOne
 rw [if_pos (by simp)]
theorem QeY {K : PySem.W.Frag} {t : Value} {n : String} {b : Bool} (h : (t == Value.type n) = false) (m : PySem.W.kitMeta n = true) (s : PySem.W.subIn K t (.type n) = some b) : PySem.W.kitOne K t (.type n) = some b := by
 unfold PySem.W.kitOne PySem.W.kitCls
 rw [if_neg (by rw [h]; exact Bool.false_ne_true)]
 show (if PySem.W.kitMeta n = true then PySem.W.subIn K t (.type n) else none) = some b
 rw [if_pos m]
 exact s
section
variable {P : Program} {w : World} {K : PySem.W.Frag} {mg : Str → Option Value} {base : Heap}
def Qdc : Sp := fun vs H Q _ => ∃ i : Int, vs = [.int i] ∧ Q (.bl true) H
def Qc5 (K : PySem.W.Frag) : Sp := fun vs H Q _ => ∃ (a b : Addr) (ns : List Int), vs = [.ref a, .ref b] ∧ H a = some (.lst (ns.map V.int)) ∧ SqL K H b (ns.map V.int) ∧ ns.length ≤ 1000 ∧ Q (.bl true) H
def Qi7 : Sp := fun vs H Q _ => ∃ (v u : V) (t : T), vs = [v, u] ∧ isT H t v ∧ isT H t u ∧ Q (.bl true) H
end
end LW
namespace LW
open PySem L2
structure TX (K : PySem.W.Frag) (mg : Str → Option Value) (C : Addr) : Prop extends HTxt K mg C, LTxt K mg
def MakeOk (P : Program) (w : World) (K : PySem.W.Frag) (mg : Str → Option Value) (base : Heap) (C : Addr) (k : Nat) (ps : List Str) (sp : Sp) (dss : List (List Value)) : Prop :=
 ∃ f fd j, j + 1 ≤ k ∧ Mk K C f ∧ FnOk P w K mg base CX0 j f fd ps sp ∧ ∀ ds ∈ dss, Binds K fd ps ds
section
variable {P : Program} {w : World} {K : PySem.W.Frag} {mg : Str → Option Value} {base : Heap} {C : Addr} {j k : Nat} {m x : Str} {ps : List Str} {sp : Sp} {dss : List (List Value)}
theorem MethOk.mono (h : MethOk P w K mg base C j m ps sp dss) (e : j ≤ k) : MethOk P w K mg base C k m ps sp dss := let ⟨f, fd, a, b, c⟩ := h; ⟨f, fd, a, b.mono e, c⟩
theorem DefOk.mono (h : DefOk P w K mg base j x ps sp dss) (e : j ≤ k) : DefOk P w K mg base k x ps sp dss := let ⟨f, fd, a, a', b, c⟩ := h; ⟨f, fd, a, a', b.mono e, c⟩
theorem MakeOk.mono (h : MakeOk P w K mg base C j ps sp dss) (e : j ≤ k) : MakeOk P w K mg base C k ps sp dss := let ⟨f, fd, i, hi, a, b, c⟩ := h; ⟨f, fd, i, Nat.le_trans hi e, a, b, c⟩
end
section
variable {C p : Addr} {H H' : Hp} {A A' : HA} {S S' : HS} {W : List Rt} {i : Nat}
theorem HA.footNd (h : HouseAt C H p A S) : (A.foot p).Nodup := by
 have n1 : ∀ b ∈ A.lists, b ≠ p := fun b hb e => by
  obtain ⟨vs, z⟩ := h.isL b hb
  rw [e, h.ob] at z; cases z
 have n2 : ∀ b ∈ A.lists, b ≠ A.kd := fun b hb e => by
  obtain ⟨vs, z⟩ := h.isL b hb
  rw [e, h.kd] at z; cases z
 have n3 : ∀ b ∈ A.lists, b ≠ A.fd := fun b hb e => by
  obtain ⟨vs, z⟩ := h.isL b hb
  rw [e, h.fd] at z; cases z
 have e1 : p ≠ A.kd := QE h.ob h.kd (by intro z; cases z)
 have e2 : p ≠ A.fd := QE h.ob h.fd (by intro z; cases z)
 show (p :: A.kd :: A.fd :: A.lists).Nodup
 refine List.nodup_cons.mpr ⟨fun m => ?_, List.nodup_cons.mpr ⟨fun m => ?_, List.nodup_cons.mpr ⟨fun m => n3 _ m rfl, h.nd⟩⟩⟩
 ·rcases List.mem_cons.mp m with q | m
  ·exact e1 q
  ·rcases List.mem_cons.mp m with q | m
   ·exact e2 q
   ·exact n1 _ m rfl
 ·rcases List.mem_cons.mp m with q | m
  ·exact h.kf q
  ·exact n2 _ m rfl
theorem Own.house (w : Own H W) (h : W[i]? = some (Qah C p S)) : ∃ A, HouseAt C H p A S := by
 obtain ⟨F, A, q, _⟩ := w.get h
 exact ⟨A, q⟩
theorem Own.houseOut (w : Own H W) (h : W[i]? = some (Qah C p S)) : ∃ A, HouseAt C H p A S ∧
  ∀ A' H' S', HouseAt C H' p A' S' → Frame (A.foot p) H H' → Tups H H' → Grown (A.foot p) (A'.foot p) H → Own H' (W.set i (Qah C p S')) := by
 obtain ⟨F, G, ⟨A, hh, rfl⟩, nd, dj, th, fin⟩ := w.chg h
 refine ⟨A, hh, fun A' H' S' hh' fr tu gr => fin H' _ (A'.foot p) ⟨A', hh', rfl⟩ (HA.footNd hh') gr (fun b hb => ?_) ⟨tu, hh.frz fr⟩⟩
 obtain ⟨o, e⟩ := th b hb
 rw [e]
 exact fr b o e fun m => dj b m hb
theorem Own.houseNew (w : Own H W) (hh : HouseAt C H' p A S) (fr : Frame [] H H') (n : ∀ b ∈ A.foot p, H b = none) : Own H' (Qah C p S :: W) := by
 obtain ⟨Fs, pr, nd⟩ := w
 have im : Same H H' := fun b o q => fr b o q (by simp)
 have out : ∀ b ∈ A.foot p, b ∉ Fs.flatten := fun b hb z => by
  obtain ⟨F, hF, hb2⟩ := List.mem_flatten.mp z
  obtain ⟨j, hj⟩ := List.getElem?_of_mem hF
  obtain ⟨r, _, q⟩ := QM pr hj
  obtain ⟨o, e⟩ := r.there q b hb2
  rw [n b hb] at e; cases e
 refine ⟨A.foot p :: Fs, .cons ⟨A, hh, rfl⟩ (QQ (fun r F _ _ z => r.keep z (fun b hb => ?_) (Imm.same im)) pr), ?_⟩
 ·obtain ⟨o, e⟩ := r.there z b hb
  rw [e]; exact im _ _ e
 ·rw [List.flatten_cons]
  exact List.nodup_append.mpr ⟨HA.footNd hh, nd, fun x hx y hy e => out x hx (e ▸ hy)⟩
end
def QaD (bs : List Box) (i at_ : Nat) (t : T) : List Box := bs.modify i fun b => { b with row := b.row.set at_ t }
def HS.put (S : HS) (i at_ : Nat) (t : T) : HS := { S with boxes := QaD S.boxes i at_ t }
theorem Qak (bs : List Box) (i at_ : Nat) (t : T) : (QaD bs i at_ t).map (·.name) = bs.map (·.name) := by
 unfold QaD
 refine List.ext_getElem? fun j => ?_
 rw [List.getElem?_map, List.getElem?_map, List.getElem?_modify]
 by_cases e : i = j
 ·simp only [e, if_true]
  cases bs[j]? <;> rfl
 ·simp only [e, if_false]
  cases bs[j]? <;> rfl
end LW
namespace LW
open PySem L2
theorem vals_n : Vals [V.non] [Value.none] := .cons rfl .nil
theorem vals_1 (i : Int) (t : Tok) : Vals [V.int i] [Value.int i t] := .cons ⟨t, rfl⟩ .nil
end LW
namespace LW
open PySem L2
theorem Qgl (K : PySem.W.Frag) : PySem.W.kitOne K (.type "NoneType") (.type "tuple") = some false := QeY (by decide +kernel) (by decide +kernel) (by rfl)
theorem Qgm (K : PySem.W.Frag) : PySem.W.kitOne K (.type "int") (.type "tuple") = some false := QeY (by decide +kernel) (by decide +kernel) (by rfl)
def T.nm : T → V
 | .box n => .int n
 | _ => .non
def T.In (t : T) (ns : List Int) : Prop := ∀ n, t = .box n → n ∈ ns
theorem isT.ty {K : PySem.W.Frag} {H : Hp} {t : T} {v : V} (h : isT H t v) : ∃ y b, TyOf K H v y ∧ PySem.W.kitOne K y (.type "tuple") = some b ∧ (b = true ↔ ∃ n, t = .box n) := by
 cases t with
 | non => cases (show v = .non from h); exact ⟨_, false, .non, Qgl K, by simp⟩
 | num i => cases (show v = .int i from h); exact ⟨_, false, .int i, Qgm K, by simp⟩
 | box n => obtain ⟨a, rfl, q⟩ := h; exact ⟨_, true, .tup q, Qaw _ _, by simp⟩
section
variable {P : Program} {w : World} {K : PySem.W.Frag} {mg : Str → Option Value} {base : Heap} {C : Addr}
def Qbh : Sp := fun vs H Q _ => ∃ (v : V) (t : T), vs = [v] ∧ isT H t v ∧ Q t.nm H
def Qdd : Sp := fun vs H Q _ => ∃ (v : V) (t : T) (a : Addr) (ns : List Int), vs = [v, .ref a] ∧ isT H t v ∧ H a = some (.lst (ns.map V.int)) ∧
 match t with
 | .box n => ∃ (j : Nat) (m : Int), n = (j : Int) ∧ ns[j]? = some m ∧ ∀ x, H x = none → Q (.ref x) (upd H x (.tup [.str "box", .int m]))
 | _ => Q v H
def Qbf (C : Addr) : Sp := fun vs H Q _ => ∃ (p : Addr) (A : HA) (S : HS) (v : V) (t : T), vs = [.ref p, v] ∧ HouseAt C H p A S ∧ isT H t v ∧ t.In (names S) ∧ Q .non H
theorem Qfw {α : Type} {l : List α} {i : Nat} {x : α} (f : α → α) (h : l[i]? = some x) : l.modify i f = l.set i (f x) := by
 refine List.ext_getElem? fun j => ?_
 rw [List.getElem?_modify, List.getElem?_set]
 have hl := (List.getElem?_eq_some_iff.mp h).1
 by_cases e : i = j
 ·subst e; rw [h]; simp [hl]
 ·simp [e]
theorem Qa1 (bs : List Box) (i at_ : Nat) (t : T) : Qr (QaD bs i at_ t) = Qr bs := by
 unfold Qr QaD
 refine List.ext_getElem? fun j => ?_
 rw [List.getElem?_map, List.getElem?_map, List.getElem?_modify]
 by_cases e : i = j
 ·simp only [e, if_true]; cases bs[j]? <;> rfl
 ·simp only [e, if_false]; cases bs[j]? <;> rfl
theorem Qa2 {bs bs' : List Box} (h : bs'.map (·.name) = bs.map (·.name)) (fl : List Addr) : Ql bs' fl = Ql bs fl := by
 unfold Ql
 have e : ∀ l : List Box, (l.zip fl).map (fun q => ((Sum.inl q.1.name : Key), V.ref q.2)) = (((l.map (·.name)).zip fl).map fun q => ((Sum.inl q.1 : Key), V.ref q.2)) := fun l => by
  rw [List.zip_map_left, List.map_map]; rfl
 rw [e, e, h]
theorem QcH {α : Type} : ∀ {l : List α} {i j : Nat} {x : α}, l.Nodup → l[i]? = some x → l[j]? = some x → i = j
 | [], _, _, _, _, h, _ => by simp at h
 | y :: l, 0, 0, _, _, _, _ => rfl
 | y :: l, 0, j + 1, x, nd, h1, h2 => by
  have e : y = x := by simpa using h1
  exact absurd (List.mem_of_getElem? (show l[j]? = some x by simpa using h2)) (e ▸ (List.nodup_cons.mp nd).1)
 | y :: l, i + 1, 0, x, nd, h1, h2 => by
  have e : y = x := by simpa using h2
  exact absurd (List.mem_of_getElem? (show l[i]? = some x by simpa using h1)) (e ▸ (List.nodup_cons.mp nd).1)
 | y :: l, i + 1, j + 1, x, nd, h1, h2 => by
  exact congrArg (· + 1) (QcH (i := i) (j := j) (x := x) (List.nodup_cons.mp nd).2 (by simpa using h1) (by simpa using h2))
theorem QeJ {H H' : Hp} {bs : List Box} {fl : List Addr} {i at_ : Nat} {b : Box} {a : Addr} {ws : List V} {t : T} {v : V} (p : Paired (fun b a => ThL H b.row a) bs fl) (nd : fl.Nodup) (hb : bs[i]? = some b) (ha : fl[i]? = some a)
  (ht : Ths H b.row ws) (tv : isT H t v) (tu : Tups H H') (h1 : H' a = some (.lst (ws.set at_ v))) (h2 : ∀ c ∈ fl, c ≠ a → H' c = H c) : Paired (fun b a => ThL H' b.row a) (QaD bs i at_ t) fl := by
 unfold QaD
 rw [Qfw _ hb]
 have e : fl = fl.set i a := by
  refine List.ext_getElem? fun j => ?_
  rw [List.getElem?_set]
  by_cases q : i = j
  ·subst q; rw [ha]; simp [(List.getElem?_eq_some_iff.mp ha).1]
  ·simp [q]
 rw [e]
 refine Qdr p ⟨_, h1, Ths.keep tu (Qgz tv at_ ht)⟩ fun j x c hj hx hc z => z.keep tu (h2 c (List.mem_of_getElem? hc) fun q => ?_)
 subst q
 exact hj (QcH nd hc ha)
theorem HouseAt.flNd {H : Hp} {p : Addr} {A : HA} {S : HS} (h : HouseAt C H p A S) : A.fl.Nodup := by
 have n := h.nd
 unfold HA.lists at n
 have n3 := (List.nodup_cons.mp (List.nodup_cons.mp (List.nodup_cons.mp n).2).2).2
 exact (List.nodup_append.mp n3).1
theorem HouseAt.setField {H : Hp} {p : Addr} {A : HA} {S : HS} {i at_ : Nat} {b : Box} {a : Addr} {ws : List V} {t : T} {v : V} (h : HouseAt C H p A S) (hb : S.boxes[i]? = some b) (ha : A.fl[i]? = some a) (hw : H a = some (.lst ws)) (ht : Ths H b.row ws) (tv : isT H t v) :
  HouseAt C (upd H a (.lst (ws.set at_ v))) p A (S.put i at_ t) := by
 have tu : Tups H (upd H a (.lst (ws.set at_ v))) := Tups.upd hw (by intro xs z; cases z)
 have ham := List.mem_of_getElem? ha
 have nd := h.nd
 unfold HA.lists at nd
 obtain ⟨n1, nd⟩ := List.nodup_cons.mp nd
 obtain ⟨n2, nd⟩ := List.nodup_cons.mp nd
 obtain ⟨n3, nd⟩ := List.nodup_cons.mp nd
 obtain ⟨n4, n5, n6⟩ := List.nodup_append.mp nd
 have e1 : A.sl ≠ a := fun e => n1 (by rw [e]; simp [ham])
 have e2 : A.qs ≠ a := fun e => n2 (by rw [e]; simp [ham])
 have e3 : A.td ≠ a := fun e => n3 (by rw [e]; simp [ham])
 have e4 : ∀ c ∈ A.ql, c ≠ a := fun c hc e => n6 a ham c (by simp [hc]) e.symm
 have e5 : ∀ c ∈ A.tl, c ≠ a := fun c hc e => n6 a ham c (by simp [hc]) e.symm
 refine ⟨?_, h.sl.keep tu (Qg e1), ?_, ?_, QeJ h.fl h.flNd hb ha ht tv tu Qb (fun c _ n => Qg n), ?_, QQ (fun b a _ ha z => (Qg (e4 _ ha)).trans z) h.ql, ?_, QQ (fun b a _ ha z => (Qg (e5 _ ha)).trans z) h.tl, h.nd, h.kf, ?_, ?_⟩
 ·rw [Qg (QE h.ob hw (by intro z; cases z))]; exact h.ob
 ·rw [Qg (QE h.kd hw (by intro z; cases z))]; show _ = some (HO.dK (Qr (QaD _ _ _ _))); rw [Qa1]; exact h.kd
 ·rw [Qg (QE h.fd hw (by intro z; cases z))]; show _ = some (HO.dK (Ql (QaD _ _ _ _) _)); rw [Qa2 (Qak _ _ _ _)]; exact h.fd
 ·rw [Qg e2]; exact h.qs
 ·rw [Qg e3]; exact h.td
 ·show ((QaD _ _ _ _).map (·.name)).Pairwise (· < ·); rw [Qak]; exact h.asc
 ·intro x hx
  have hx : x.name ∈ (QaD S.boxes i at_ t).map (·.name) := List.mem_map.mpr ⟨x, hx, rfl⟩
  rw [Qak] at hx
  obtain ⟨y, hy, e⟩ := List.mem_map.mp hx
  rw [← e]; exact h.top y hy
theorem HouseAt.outOne {H : Hp} {p a : Addr} {A : HA} {S S' : HS} {vs : List V} {o : HO} {Q : V → Hp → Prop} {v : V} (h : HouseAt C H p A S) (hm : a ∈ A.lists) (hw : H a = some (.lst vs)) (h' : HouseAt C (upd H a o) p A S') (k : Out C H p A S' Q v) : Q v (upd H a o) :=
 k A _ h' (fun b o q nb => by rw [Qg (fun e => nb (by rw [e]; simp [HA.foot, hm]))]; exact q) (Tups.upd hw (by intro xs z; cases z)) (Grown.refl _ _)
def Qjt (C : Addr) : Sp := fun vs H Q _ => ∃ (p : Addr) (A : HA) (S : HS) (i : Nat) (b : Box) (at_ : Nat) (v : V) (t : T), vs = [.ref p, .int b.name, .int at_, v] ∧ HouseAt C H p A S ∧ S.boxes[i]? = some b ∧ at_ < b.row.length ∧ isT H t v ∧ t.In (names S) ∧ Out C H p A (S.put i at_ t) Q .non
def HS.hold (S : HS) (j : Nat) (t : T) : HS := { S with slots := S.slots.set j t }
def Qi9 (C : Addr) : Sp := fun vs H Q _ => ∃ (p : Addr) (A : HA) (S : HS) (j : Nat) (v : V) (t : T), vs = [.ref p, .int j, v] ∧ HouseAt C H p A S ∧ j < S.slots.length ∧ isT H t v ∧ t.In (names S) ∧ Out C H p A (S.hold j t) Q .non
end
end LW
namespace LW
open PySem L2
def cellOf (ns : List Int) (k : Int) : Int := ns.getD k.toNat 0
def drw (ns : List Int) (k : Int) : Int := (cellOf ns (k % 61) + 7919 * k) * 48271 % 2147483647
theorem drw_nn (ns : List Int) (k : Int) : 0 ≤ drw ns k := Int.emod_nonneg _ (by decide)
def TOk (many : Int) : T → Prop
 | .non => True
 | .num i => -(10 ^ 40) < i ∧ i < 10 ^ 40
 | .box n => 1 ≤ n ∧ n ≤ many
structure BOk (many : Int) (b : Box) : Prop where
 kd : b.kind = "plain" ∨ b.kind = "weak" ∨ b.kind = "pair"
 sz : Qap b.kind b.row.length = b.row.length
 le : b.row.length ≤ 8
 ts : ∀ t ∈ b.row, TOk many t
def RecNew (H0 H : Hp) (ak ar : Addr) (bs : List Box) : Prop := ∃ fl, H ak = some (.dK (Qr bs)) ∧ H ar = some (.dK (Ql bs fl)) ∧ Paired (fun b a => ThL H b.row a) bs fl ∧ (ak :: ar :: fl).Nodup ∧ ∀ b ∈ ak :: ar :: fl, H0 b = none
theorem Own.add {H H' : Hp} {W : List Rt} {r : Rt} {F : List Addr} (w : Own H W) (s : Same H H') (h : r.on H' F) (nd : F.Nodup) (n : ∀ b ∈ F, H b = none) : Own H' (r :: W) := by
 obtain ⟨Fs, p, nd'⟩ := w
 refine ⟨F :: Fs, .cons h (QQ (fun r F _ _ z => r.keep z (fun b hb => ?_) (Imm.same s)) p), ?_⟩
 ·obtain ⟨o, e⟩ := r.there z b hb
  rw [e]; exact s _ _ e
 ·rw [List.flatten_cons]
  refine List.nodup_append.mpr ⟨nd, nd', fun x hx y hy e => ?_⟩
  subst e
  obtain ⟨G, hG, hx2⟩ := List.mem_flatten.mp hy
  obtain ⟨j, hj⟩ := List.getElem?_of_mem hG
  obtain ⟨r2, _, q⟩ := QM p hj
  obtain ⟨o, e⟩ := r2.there q x hx2
  rw [n x hx] at e; cases e
theorem RecNew.on {H0 H : Hp} {ak ar : Addr} {bs : List Box} (h : RecNew H0 H ak ar bs) : ∃ F, (Qd4 ak ar bs).on H F ∧ F.Nodup ∧ ∀ b ∈ F, H0 b = none := let ⟨fl, a, b, c, d, e⟩ := h; ⟨_, ⟨fl, a, b, c, rfl⟩, d, e⟩
theorem ThL.same {H H' : Hp} {ts : List T} {a : Addr} (s : Same H H') (h : ThL H ts a) : ThL H' ts a := let ⟨vs, h1, h2⟩ := h; ⟨vs, s _ _ h1, h2.keep (Tups.of_same s)⟩
theorem RecNew.same {H0 H H' : Hp} {ak ar : Addr} {bs : List Box} (s : Same H H') (h : RecNew H0 H ak ar bs) : RecNew H0 H' ak ar bs := let ⟨fl, a, b, c, d, e⟩ := h; ⟨fl, s _ _ a, s _ _ b, QQ (fun _ _ _ _ z => z.same s) c, d, e⟩
theorem Qf9 (bs : List Box) (b : Box) : Qr (bs ++ [b]) = Qr bs ++ [((Sum.inl b.name : Key), V.str b.kind)] := by simp [Qr]
theorem QfG {bs : List Box} {fl : List Addr} (h : bs.length = fl.length) (b : Box) (a : Addr) : Ql (bs ++ [b]) (fl ++ [a]) = Ql bs fl ++ [((Sum.inl b.name : Key), V.ref a)] := by
 unfold Ql
 rw [List.zip_append h, List.map_append]
 rfl
theorem keyOut {bs : List Box} {n : Int} (h : n ∉ bs.map (·.name)) : QbP (Qr bs) (Sum.inl n) = none := by
 refine Qbw ?_
 rw [Zv]
 intro m
 obtain ⟨b, hb, q⟩ := List.mem_map.mp m
 rw [Sum.inl.inj q] at hb
 exact h hb
theorem QjM {bs : List Box} {fl : List Addr} {n : Int} (hl : bs.length = fl.length) (h : n ∉ bs.map (·.name)) : QbP (Ql bs fl) (Sum.inl n) = none := by
 refine Qbw ?_
 rw [Qae hl]
 intro m
 obtain ⟨b, hb, q⟩ := List.mem_map.mp m
 rw [Sum.inl.inj q] at hb
 exact h hb
theorem Qan (lo : Int) (n : Nat) : Qy lo (n + 1) = Qy lo n ++ [lo + n] := by
 unfold Qy
 rw [List.range_succ, List.map_append]
 rfl
theorem Zq {lo : Int} {n : Nat} {x : Int} : x ∈ Qy lo n ↔ lo ≤ x ∧ x < lo + n := by
 unfold Qy
 rw [List.mem_map]
 constructor
 ·rintro ⟨k, hk, rfl⟩
  have := List.mem_range.mp hk
  omega
 ·rintro ⟨h1, h2⟩
  exact ⟨(x - lo).toNat, List.mem_range.mpr (by omega), by omega⟩
theorem Qjf {many : Int} (i : Int) (h1 : 0 ≤ i) (h2 : i < 100) : TOk many (.num i) := by
 have h3 : (100 : Int) < 10 ^ 40 := by decide
 exact ⟨by omega, by omega⟩
theorem QaI {n : Nat} (h : n ≤ 1000) : n ≤ sizeLine := Nat.le_of_lt (QP h)
section
variable {P : Program} {w : World} {K : PySem.W.Frag} {mg : Str → Option Value} {base : Heap} {C : Addr}
def QeD (K : PySem.W.Frag) : Sp := fun vs H Q _ => ∃ (a : Addr) (ns : List Int) (k : Int), vs = [.ref a, .int k] ∧ Scr K H a ns ∧ 0 ≤ k ∧ Q (.int (cellOf ns k)) H
def QbV (K : PySem.W.Frag) : Sp := fun vs H Q _ => ∃ (a : Addr) (ns : List Int) (k : Int), vs = [.ref a, .int k] ∧ Scr K H a ns ∧ Q (.int (drw ns k)) H
def QhA (K : PySem.W.Frag) : Sp := fun vs H Q _ => ∃ (a : Addr) (ns : List Int), vs = [.ref a] ∧ Scr K H a ns ∧ ∀ m : Int, 1 ≤ m → m ≤ 40 → Q (.int m) H
def Qgo (K : PySem.W.Frag) : Sp := fun vs H Q _ => ∃ (a : Addr) (ns : List Int) (k : Int), vs = [.ref a, .int k] ∧ Scr K H a ns ∧ ∀ i : Int, -(10 ^ 40) < i → i < 10 ^ 40 → Q (.int i) H
theorem p40 : (0 : Int) < 10 ^ 40 := by decide
def Qhv (K : PySem.W.Frag) : Sp := fun vs H Q _ => ∃ (a : Addr) (ns : List Int) (k many : Int), vs = [.ref a, .int k, .int many] ∧ Scr K H a ns ∧ 1 ≤ many ∧ ∀ t v H', Same H H' → isT H' t v → TOk many t → Q v H'
def Qhw (K : PySem.W.Frag) : Sp := fun vs H Q _ => ∃ (a : Addr) (ns : List Int) (count many : Int), vs = [.ref a, .int count, .int many] ∧ Scr K H a ns ∧ 0 ≤ count ∧ count ≤ 1000 ∧ 1 ≤ many ∧
 ∀ l ts H', Same H H' → H l = none → ThL H' ts l → (ts.length : Int) = count → (∀ t ∈ ts, TOk many t) → Q (.ref l) H'
end
end LW
namespace LW
open PySem L2
theorem Qjs : ¬ (("plain" : Str) = "weak") := by decide +kernel
theorem Qjr : ¬ (("plain" : Str) = "pair") := by decide +kernel
theorem Qjq : ¬ (("pair" : Str) = "weak") := by decide +kernel
theorem Qel (n : Int) : Qap "plain" n = n := by unfold Qap; rw [if_neg Qjs, if_neg Qjr]
theorem QhG (n : Int) : Qap "weak" n = 1 := by unfold Qap; rw [if_pos rfl]
theorem QhH (n : Int) : Qap "pair" n = 2 := by unfold Qap; rw [if_neg Qjq, if_pos rfl]
theorem menu4 (c : Int) : ∃ (kd : Str) (sz : Int), atI [V.str "plain", V.str "weak", V.str "pair", V.str "plain"] (c % 4) = some (V.str kd) ∧ atI [V.int (c / 4 % 9), V.int 1, V.int 2, V.int (c / 4 % 3)] (c % 4) = some (V.int sz) ∧
  (kd = "plain" ∨ kd = "weak" ∨ kd = "pair") ∧ 0 ≤ sz ∧ sz ≤ 8 ∧ Qap kd sz = sz := by
 have h1 := Int.emod_nonneg (c / 4) (show (9 : Int) ≠ 0 by decide)
 have h2 := Int.emod_lt_of_pos (c / 4) (show (0 : Int) < 9 by decide)
 have h3 := Int.emod_nonneg (c / 4) (show (3 : Int) ≠ 0 by decide)
 have h4 := Int.emod_lt_of_pos (c / 4) (show (0 : Int) < 3 by decide)
 have : c % 4 = 0 ∨ c % 4 = 1 ∨ c % 4 = 2 ∨ c % 4 = 3 := by omega
 rcases this with e | e | e | e
 ·rw [e]; exact ⟨_, _, rfl, rfl, .inl rfl, h1, by omega, Qel _⟩
 ·rw [e]; exact ⟨_, _, rfl, rfl, .inr (.inl rfl), by decide, by decide, QhG _⟩
 ·rw [e]; exact ⟨_, _, rfl, rfl, .inr (.inr rfl), by decide, by decide, QhH _⟩
 ·rw [e]; exact ⟨_, _, rfl, rfl, .inl rfl, h3, by omega, Qel _⟩
theorem RecNew.snoc {H0 H H1 H2 H3 : Hp} {ak ar a : Addr} {bs : List Box} {b : Box} (h : RecNew H0 H ak ar bs) (s1 : Same H H1) (n : b.name ∉ bs.map (·.name))
  (e2 : H2 = upd H1 ak (.dK (QbZ (Qr bs) (Sum.inl b.name) (.str b.kind)))) (s2 : Same H2 H3) (ta : ThL H3 b.row a) (fa : H2 a = none) (s0 : Same H0 H2) {o : HO} (fl' : ∀ fl, H3 ar = some (.dK (Ql bs fl)) → o = .dK (QbZ (Ql bs fl) (Sum.inl b.name) (.ref a))) :
  RecNew H0 (upd H3 ar o) ak ar (bs ++ [b]) := by
 obtain ⟨fl, h1, h2, p, nd, fr⟩ := h
 obtain ⟨m1, nd1⟩ := List.nodup_cons.mp nd
 obtain ⟨m2, nd2⟩ := List.nodup_cons.mp nd1
 have hka : ak ≠ ar := fun e => m1 (by simp [e])
 have r2 : H2 ar = some (.dK (Ql bs fl)) := by rw [e2, Qg hka.symm]; exact s1 _ _ h2
 have r3 := s2 _ _ r2
 have k2 : H2 ak = some (.dK (QbZ (Qr bs) (Sum.inl b.name) (.str b.kind))) := by rw [e2]; exact Qb
 have k3 := s2 _ _ k2
 rw [QbD _ (keyOut n)] at k3
 have hl := QB p
 have t12 : Tups H1 H2 := by rw [e2]; exact Tups.upd (s1 _ _ h1) (by intro xs z; cases z)
 have t3 : Tups H3 (upd H3 ar o) := Tups.upd r3 (by intro xs z; cases z)
 have lists : ∀ c ∈ fl, c ≠ ak ∧ c ≠ ar := fun c hc => ⟨fun e => m1 (by simp [← e, hc]), fun e => m2 (by rw [← e]; exact hc)⟩
 have na : a ≠ ak ∧ a ≠ ar ∧ a ∉ fl := by
  refine ⟨fun e => ?_, fun e => ?_, fun hc => ?_⟩
  ·rw [e, k2] at fa; cases fa
  ·rw [e, r2] at fa; cases fa
  ·obtain ⟨j, hj⟩ := List.getElem?_of_mem hc
   obtain ⟨x, _, vs, z, _⟩ := QM p hj
   have z2 : H2 a = some (.lst vs) := by rw [e2, Qg (lists a hc).1]; exact s1 _ _ z
   rw [z2] at fa; cases fa
 refine ⟨fl ++ [a], ?_, ?_, ?_, ?_, ?_⟩
 ·rw [Qg hka, k3, Qf9]
 ·rw [Qb, fl' fl r3, QbD _ (QjM hl n), QfG hl]
 ·refine Qaj (QQ (fun x c _ hc z => ?_) p) (.cons (ta.keep t3 (Qg na.2.1)) .nil)
  have z1 := z.same s1
  have z2 : ThL H2 x.row c := z1.keep t12 (by rw [e2, Qg (lists c hc).1])
  exact (z2.same s2).keep t3 (Qg (lists c hc).2)
 ·refine List.nodup_cons.mpr ⟨fun m => ?_, List.nodup_cons.mpr ⟨fun m => ?_, QdD nd2 na.2.2⟩⟩
  ·have m : ak = ar ∨ ak ∈ fl ∨ ak = a := by simpa using m
   rcases m with e | e | e
   ·exact hka e
   ·exact (lists _ e).1 rfl
   ·exact na.1 e.symm
  ·have m : ar ∈ fl ∨ ar = a := by simpa using m
   rcases m with e | e
   ·exact (lists _ e).2 rfl
   ·exact na.2.1 e.symm
 ·intro c hc
  have hc : c ∈ ak :: ar :: fl ∨ c = a := by simpa [or_assoc] using hc
  rcases hc with hc | rfl
  ·exact fr c hc
  ·exact s0.free fa
section
variable {P : Program} {w : World} {K : PySem.W.Frag} {mg : Str → Option Value} {base : Heap} {C : Addr}
def QhD (K : PySem.W.Frag) : Sp := fun vs H Q _ => ∃ (a : Addr) (ns : List Int) (many : Int), vs = [.ref a, .int many] ∧ Scr K H a ns ∧ 1 ≤ many ∧ many ≤ 1000 ∧
 ∀ m ak ar bs H', Same H H' → H' m = some (.tup [.ref ak, .ref ar]) → RecNew H H' ak ar bs → bs.map (·.name) = Qy 1 many.toNat → (∀ b ∈ bs, BOk many b) → Q (.ref m) H'
end
end LW
namespace LW
open PySem L2
def Box.blank (b : Box) : Box := ⟨b.name, b.kind, List.replicate b.row.length .non⟩
def e4 : List (List Int) := [[], [], [], []]
theorem Qdb {C p l : Addr} {H H1 H2 : Hp} {A A2 : HA} {S : HS} {o : HO} (s : Same H H1) (f0 : ∀ b ∈ A.foot p, H b = none) (hl : H1 l = some o) (nl : l ∉ A.foot p) (fr : Frame (A.foot p) H1 H2) (gr : Grown (A.foot p) (A2.foot p) H1) :
  Same H H2 ∧ (∀ b ∈ A2.foot p, H b = none) ∧ H2 l = some o ∧ l ∉ A2.foot p := by
 refine ⟨fun b u e => fr b u (s _ _ e) fun m => ?_, fun b hb => ?_, fr l o hl nl, gr.out hl nl⟩
 ·have := f0 b m
  rw [e] at this; cases this
 ·rcases gr b hb with z | z
  ·exact f0 b z
  ·exact s.free z
theorem Qhd (bs : List Box) (i : Nat) (b : Box) (h : bs[i]? = some b) : (bs.take (i + 1)).map Box.blank = (bs.take i).map Box.blank ++ [b.blank] := by
 rw [List.take_add_one, h, List.map_append]
 rfl
theorem Qf6 {bs : List Box} {n i : Nat} (h : bs.map (·.name) = Qy 1 n) {b : Box} (hb : bs[i]? = some b) : b.name = 1 + (i : Int) ∧ i < n := by
 have h1 : (bs.map (·.name))[i]? = some b.name := by rw [List.getElem?_map, hb]; rfl
 have hl := (List.getElem?_eq_some_iff.mp h1).1
 rw [h, Qo] at hl
 rw [h, Zr hl] at h1
 exact ⟨(Option.some.inj h1).symm, hl⟩
theorem QfC {lo : Int} {n i : Nat} {x : V} (h : ((Qy lo n).map V.int)[i]? = some x) : i < n ∧ x = .int (lo + i) := by
 have hl := (List.getElem?_eq_some_iff.mp h).1
 rw [List.length_map, Qo] at hl
 rw [List.getElem?_map, Zr hl] at h
 exact ⟨hl, (Option.some.inj h).symm⟩
theorem kindAt {bs : List Box} (nd : (bs.map (·.name)).Nodup) {i : Nat} {b : Box} (e : bs[i]? = some b) : QbP (Qr bs) (Sum.inl b.name) = some (.str b.kind) := by
 refine Qda (by rw [Zv]; exact QdE nd) (i := i) ?_
 simp [Qr, e]
theorem rowAt {bs : List Box} {fl : List Addr} (hl : bs.length = fl.length) (nd : (bs.map (·.name)).Nodup) {i : Nat} {b : Box} {a : Addr} (e : bs[i]? = some b) (ha : fl[i]? = some a) : QbP (Ql bs fl) (Sum.inl b.name) = some (.ref a) := by
 refine Qda (by rw [Qae hl]; exact QdE nd) (i := i) ?_
 unfold Ql
 rw [List.getElem?_map, List.getElem?_zip_eq_some.mpr (show bs[i]? = some (b, a).1 ∧ fl[i]? = some (b, a).2 from ⟨e, ha⟩)]
 rfl
theorem Qao (lo : Int) : ∀ n : Nat, (Qy lo n).Pairwise (· < ·)
 | 0 => .nil
 | n + 1 => by
  rw [Qan]
  refine List.pairwise_append.mpr ⟨Qao lo n, List.pairwise_singleton _ _, fun x hx y hy => ?_⟩
  rw [List.mem_singleton.mp hy]
  exact (Zq.mp hx).2
def Z0 (bs : List Box) (i j : Nat) : List Box := bs.mapIdx fun k b => if k < i then b else if k = i then ⟨b.name, b.kind, b.row.take j ++ List.replicate (b.row.length - j) .non⟩ else b.blank
theorem QhP (bs : List Box) : Z0 bs 0 0 = bs.map Box.blank := by
 unfold Z0
 refine List.ext_getElem? fun k => ?_
 rw [List.getElem?_mapIdx, List.getElem?_map]
 cases bs[k]? with
 | none => rfl
 | some b =>
  simp only [Option.map_some, Nat.not_lt_zero, if_false]
  split
  ·simp [Box.blank]
  ·rfl
theorem QfX {bs : List Box} {i : Nat} {b : Box} (h : bs[i]? = some b) : Z0 bs i b.row.length = Z0 bs (i + 1) 0 := by
 unfold Z0
 refine List.ext_getElem? fun k => ?_
 rw [List.getElem?_mapIdx, List.getElem?_mapIdx]
 cases e : bs[k]? with
 | none => rfl
 | some c =>
  simp only [Option.map_some, Option.some.injEq]
  by_cases h1 : k < i
  ·rw [if_pos h1, if_pos (by omega)]
  ·rw [if_neg h1]
   by_cases h2 : k = i
   ·subst h2
    rw [h] at e; cases e
    rw [if_pos rfl, if_pos (by omega)]
    simp
   ·rw [if_neg h2, if_neg (by omega)]
    split
    ·simp [Box.blank]
    ·rfl
theorem QgX (bs : List Box) : Z0 bs bs.length 0 = bs := by
 unfold Z0
 refine List.ext_getElem? fun k => ?_
 rw [List.getElem?_mapIdx]
 cases e : bs[k]? with
 | none => rfl
 | some c =>
  have := (List.getElem?_eq_some_iff.mp e).1
  simp only [Option.map_some, if_pos this]
theorem QfY (bs : List Box) (i j : Nat) : (Z0 bs i j).map (·.name) = bs.map (·.name) := by
 unfold Z0
 refine List.ext_getElem? fun k => ?_
 rw [List.getElem?_map, List.getElem?_mapIdx, List.getElem?_map]
 cases bs[k]? with
 | none => rfl
 | some b =>
  simp only [Option.map_some]
  split
  ·rfl
  ·split <;> rfl
theorem Qcb {bs : List Box} {i j : Nat} {b : Box} (h : bs[i]? = some b) : (Z0 bs i j)[i]? = some ⟨b.name, b.kind, b.row.take j ++ List.replicate (b.row.length - j) .non⟩ := by
 unfold Z0
 rw [List.getElem?_mapIdx, h]
 simp
theorem Qfj {α : Type} {l : List α} {j : Nat} {t x : α} (h : l[j]? = some t) : (l.take j ++ List.replicate (l.length - j) x).set j t = l.take (j + 1) ++ List.replicate (l.length - (j + 1)) x := by
 have hj := (List.getElem?_eq_some_iff.mp h).1
 have e : l.length - j = l.length - (j + 1) + 1 := by omega
 have ht : (l.take j).length = j := by rw [List.length_take]; omega
 rw [List.set_append_right _ _ (by omega), ht, Nat.sub_self, e, List.replicate_succ, List.set_cons_zero, List.take_add_one, h, List.append_assoc]
 rfl
theorem Qb6 {α : Type} {l m : List α} {j : Nat} {t : α} (h : l[j]? = some t) (hm : j < m.length) : (l.take j ++ m.drop j).set j t = l.take (j + 1) ++ m.drop (j + 1) := by
 have hj := (List.getElem?_eq_some_iff.mp h).1
 have ht : (l.take j).length = j := by rw [List.length_take]; omega
 rw [List.set_append_right _ _ (by omega), ht, Nat.sub_self, List.drop_eq_getElem_cons hm, List.set_cons_zero, List.take_add_one, h, List.append_assoc]
 rfl
theorem QgW {bs : List Box} {i j : Nat} {b : Box} {t : T} (h : bs[i]? = some b) (ht : b.row[j]? = some t) : QaD (Z0 bs i j) i j t = Z0 bs i (j + 1) := by
 unfold QaD
 rw [Qfw _ (Qcb h)]
 refine List.ext_getElem? fun k => ?_
 rw [List.getElem?_set]
 by_cases e : i = k
 ·subst e
  rw [Qcb h]
  have hl : i < (Z0 bs i j).length := by
   have := (List.getElem?_eq_some_iff.mp h).1
   simpa [Z0] using this
  rw [if_pos rfl, if_pos hl, Qcb h]
  simp only [Qfj ht]
 ·rw [if_neg e]
  unfold Z0
  rw [List.getElem?_mapIdx, List.getElem?_mapIdx]
  cases bs[k]? with
  | none => rfl
  | some c =>
   simp only [Option.map_some]
   rw [if_neg (show ¬ k = i from fun q => e q.symm), if_neg (show ¬ k = i from fun q => e q.symm)]
section
variable {P : Program} {w : World} {K : PySem.W.Frag} {mg : Str → Option Value} {base : Heap} {C : Addr}
def QhC (C : Addr) : Sp := fun vs H Q _ => ∃ (ak ar as : Addr) (fl : List Addr) (bs : List Box) (ts : List T) (extra : Int), vs = [.ref ak, .ref ar, .ref as, .int extra] ∧ H ak = some (.dK (Qr bs)) ∧ H ar = some (.dK (Ql bs fl)) ∧
 Paired (fun b a => ThL H b.row a) bs fl ∧ ThL H ts as ∧ bs.map (·.name) = Qy 1 bs.length ∧ bs.length < 64 ∧ (∀ b ∈ bs, BOk bs.length b) ∧ 1 ≤ ts.length ∧ ts.length ≤ 1000 ∧ (∀ t ∈ ts, TOk bs.length t) ∧ 0 ≤ extra ∧
 ∀ p A H', Same H H' → HouseAt C H' p A ⟨bs.length + extra, ts, bs.length, bs, e4, e4⟩ → (∀ b ∈ A.foot p, H b = none) → Q (.ref p) H'
end
def QfU (K : PySem.W.Frag) (a : Addr) (ns : List Int) : Rt where
 on H F := Scr K H a ns ∧ F = []
 keep := by
  rintro H H' F ⟨h, rfl⟩ k im
  exact ⟨h.keep im.f, rfl⟩
 there := by
  rintro H F ⟨h, rfl⟩ b hb
  simp at hb
theorem Own.scr {K : PySem.W.Frag} {H : Hp} {W : List Rt} {i : Nat} {a : Addr} {ns : List Int} (w : Own H W) (h : W[i]? = some (QfU K a ns)) : Scr K H a ns := by
 obtain ⟨F, q, _⟩ := w.get h
 exact q
theorem Own.tup {H : Hp} {W : List Rt} {i : Nat} {a : Addr} {vs : List V} (w : Own H W) (h : W[i]? = some (QfZ a vs)) : H a = some (.tup vs) := by
 obtain ⟨F, q, _⟩ := w.get h
 exact q
theorem Own.ths {H : Hp} {W : List Rt} {i : Nat} {a : Addr} {ts : List T} (w : Own H W) (h : W[i]? = some (QfT a ts)) : ThL H ts a := by
 obtain ⟨F, q, _⟩ := w.get h
 exact q
theorem Own.rec {H : Hp} {W : List Rt} {i : Nat} {ak ar : Addr} {bs : List Box} (w : Own H W) (h : W[i]? = some (Qd4 ak ar bs)) : ∃ fl, H ak = some (.dK (Qr bs)) ∧ H ar = some (.dK (Ql bs fl)) ∧ Paired (fun b a => ThL H b.row a) bs fl := by
 obtain ⟨F, fl, q1, q2, q3, _⟩ := w.get h
 exact ⟨fl, q1, q2, q3⟩
theorem Own.recPut {H : Hp} {W : List Rt} {j i : Nat} {ak ar : Addr} {bs : List Box} {b : Box} (w : Own H W) (h : W[j]? = some (Qd4 ak ar bs)) (hb : bs[i]? = some b) : ∃ fl a ws, H ak = some (.dK (Qr bs)) ∧ H ar = some (.dK (Ql bs fl)) ∧ bs.length = fl.length ∧ fl[i]? = some a ∧ H a = some (.lst ws) ∧ Ths H b.row ws ∧
  ∀ (t : T) (v : V) (at_ : Nat), isT H t v → Own (upd H a (.lst (ws.set at_ v))) (W.set j (Qd4 ak ar (QaD bs i at_ t))) := by
 obtain ⟨F, G, ⟨fl, hk, hr, pf, rfl⟩, nd, dj, th, fin⟩ := w.chg h
 obtain ⟨a, ha, ws, hw, htw⟩ := ZK pf hb
 have ham := List.mem_of_getElem? ha
 refine ⟨fl, a, ws, hk, hr, QB pf, ha, hw, htw, fun t v at_ tv => ?_⟩
 have ndf : fl.Nodup := (List.nodup_cons.mp (List.nodup_cons.mp nd).2).2
 have tu : Tups H (upd H a (.lst (ws.set at_ v))) := Tups.upd hw (by intro xs z; cases z)
 refine fin _ _ (ak :: ar :: fl) ⟨fl, ?_, ?_, QeJ pf ndf hb ha htw tv tu Qb (fun c _ n => Qg n), rfl⟩ nd (fun b hb => .inl hb) (fun b hb => Qg fun e => ?_) (Imm.upd hw trivial)
 ·rw [Qg (QE hk hw (by intro z; cases z)), hk, Qa1]
 ·rw [Qg (QE hr hw (by intro z; cases z)), hr, Qa2 (Qak _ _ _ _)]
 ·subst e
  exact dj b (by simp [ham]) hb
end LW
namespace LW
open PySem L2
theorem Own.thsSet {H : Hp} {W : List Rt} {i : Nat} {a : Addr} {ts : List T} (w : Own H W) (h : W[i]? = some (QfT a ts)) : ∃ ws, H a = some (.lst ws) ∧ Ths H ts ws ∧
  ∀ (t : T) (v : V) (j : Nat), isT H t v → Own (upd H a (.lst (ws.set j v))) (W.set i (QfT a (ts.set j t))) := by
 obtain ⟨F, G, ⟨⟨ws, hw, ht⟩, rfl⟩, nd, dj, th, fin⟩ := w.chg h
 refine ⟨ws, hw, ht, fun t v j tv => ?_⟩
 have tu : Tups H (upd H a (.lst (ws.set j v))) := Tups.upd hw (by intro xs z; cases z)
 refine fin _ _ [a] ⟨⟨_, Qb, Ths.keep tu (Qgz tv j ht)⟩, rfl⟩ nd (fun b hb => .inl hb) (fun b hb => Qg fun e => ?_) (Imm.upd hw trivial)
 subst e
 exact dj b (by simp) hb
end LW
namespace LW
open PySem L2
section
variable {α : Type}
theorem Qfo {β : Type} {F : α → β → Prop} : ∀ {xs : List α} {ys : List β}, xs.length = ys.length → (∀ (k : Nat) a b, xs[k]? = some a → ys[k]? = some b → F a b) → Paired F xs ys
 | [], [], _, _ => .nil
 | [], _ :: _, h, _ => by simp at h
 | _ :: _, [], h, _ => by simp at h
 | x :: xs, y :: ys, h, f => .cons (f 0 x y rfl rfl) (Qfo (by simpa using h) fun k a b h1 h2 => f (k + 1) a b (by simpa using h1) (by simpa using h2))
end
section
variable {bs : List Box} {fl : List Addr} {i j : Nat} {x y : Box} {fi fj : Addr}
end
section
variable {C : Addr} {H H' : Hp} {p : Addr} {A : HA} {S : HS} {i j : Nat} {x y : Box} {fi fj : Addr}
end
end LW
namespace LW
open PySem L2
theorem Qe1 (n : Int) (ns : List Int) : inV (.int n) (ns.map V.int) = decide (n ∈ ns) := by
 unfold inV
 rw [List.any_map]
 induction ns with
 | nil => simp
 | cons m r ih =>
  rw [List.any_cons, ih]
  simp only [Function.comp, eqV, List.mem_cons]
  by_cases e : n = m
  ·subst e; simp
  ·have e2 : ¬ m = n := fun z => e z.symm
   simp [e, e2]
theorem QdM (ns : List Int) : (ns.map V.int).all Qbt = true := by
 rw [List.all_map]
 exact List.all_eq_true.mpr fun _ _ => rfl
theorem Qh4 {H H' : Hp} {xss : List (List Int)} {al : List Addr} {g : Nat} {a : Addr} {ns : List Int} (p : Paired (Qix H) xss al) (nd : al.Nodup) (ha : al[g]? = some a) (h1 : Qix H' ns a) (h2 : ∀ c ∈ al, c ≠ a → H' c = H c) : Paired (Qix H') (xss.set g ns) al := by
 have e : al = al.set g a := by
  refine List.ext_getElem? fun j => ?_
  rw [List.getElem?_set]
  by_cases q : g = j
  ·subst q; rw [ha]; simp [(List.getElem?_eq_some_iff.mp ha).1]
  ·simp [q]
 rw [e]
 exact Qdr p h1 fun j x c hj hx hc z => (h2 c (List.mem_of_getElem? hc) fun q => hj (QcH nd (q ▸ hc) ha)).trans z
section
variable {C : Addr} {H : Hp} {p : Addr} {A : HA} {S : HS} {g : Nat} {a : Addr} {ns ms : List Int}
theorem HouseAt.parts (h : HouseAt C H p A S) : A.sl ∉ A.fl ++ (A.ql ++ A.tl) ∧ A.qs ∉ A.fl ++ (A.ql ++ A.tl) ∧ A.td ∉ A.fl ++ (A.ql ++ A.tl) ∧ A.fl.Nodup ∧ A.ql.Nodup ∧ A.tl.Nodup ∧ (∀ x ∈ A.fl, x ∉ A.ql ∧ x ∉ A.tl) ∧ ∀ x ∈ A.ql, x ∉ A.tl := by
 have nd := h.nd
 unfold HA.lists at nd
 obtain ⟨n1, nd⟩ := List.nodup_cons.mp nd
 obtain ⟨n2, nd⟩ := List.nodup_cons.mp nd
 obtain ⟨n3, nd⟩ := List.nodup_cons.mp nd
 obtain ⟨n4, n5, n6⟩ := List.nodup_append.mp nd
 obtain ⟨n7, n8, n9⟩ := List.nodup_append.mp n5
 exact ⟨fun m => n1 (List.mem_cons_of_mem _ (List.mem_cons_of_mem _ m)), fun m => n2 (List.mem_cons_of_mem _ m), n3, n4, n7, n8,
  fun x hx => ⟨fun m => n6 x hx x (List.mem_append_left _ m) rfl, fun m => n6 x hx x (List.mem_append_right _ m) rfl⟩, fun x hx m => n9 x hx x m rfl⟩
theorem HouseAt.setQueue (h : HouseAt C H p A S) (ha : A.ql[g]? = some a) (hi : Qix H ns a) : HouseAt C (upd H a (.lst (ms.map V.int))) p A { S with queues := S.queues.set g ms } := by
 obtain ⟨c1, c2, c3, c4, c5, c6, c7, c8⟩ := h.parts
 have ham := List.mem_of_getElem? ha
 have tu : Tups H (upd H a (.lst (ms.map V.int))) := Tups.upd hi (by intro xs z; cases z)
 have e1 : A.sl ≠ a := fun e => c1 (by rw [e]; simp [ham])
 have e2 : A.qs ≠ a := fun e => c2 (by rw [e]; simp [ham])
 have e3 : A.td ≠ a := fun e => c3 (by rw [e]; simp [ham])
 have e4 : ∀ c ∈ A.fl, c ≠ a := fun c hc e => (c7 c hc).1 (e ▸ ham)
 have e5 : ∀ c ∈ A.tl, c ≠ a := fun c hc e => c8 a ham (e ▸ hc)
 refine ⟨?_, h.sl.keep tu (Qg e1), ?_, ?_, QQ (fun b c _ hc z => z.keep tu (Qg (e4 c hc))) h.fl, ?_, Qh4 h.ql c5 ha Qb (fun c _ n => Qg n), ?_, QQ (fun b c _ hc z => (Qg (e5 c hc)).trans z) h.tl, h.nd, h.kf, h.asc, h.top⟩
 ·rw [Qg (QE h.ob hi (by intro z; cases z))]; exact h.ob
 ·rw [Qg (QE h.kd hi (by intro z; cases z))]; exact h.kd
 ·rw [Qg (QE h.fd hi (by intro z; cases z))]; exact h.fd
 ·rw [Qg e2]; exact h.qs
 ·rw [Qg e3]; exact h.td
end
def HS.watch (S : HS) (g : Nat) (ns : List Int) (n : Int) : HS := { S with queues := S.queues.set g (ns ++ [n]) }
def Qhs (C : Addr) : Sp := fun vs H Q _ => ∃ (p : Addr) (A : HA) (S : HS) (g : Nat) (n : Int) (ns : List Int), vs = [.ref p, .int g, .int n] ∧ HouseAt C H p A S ∧ g < 4 ∧ S.queues[g]? = some ns ∧ n ∈ names S ∧ n ∉ ns ∧ ns.length < 1000 ∧ Out C H p A (S.watch g ns n) Q .non
def Qhr (C : Addr) : Sp := fun vs H Q _ => ∃ (p : Addr) (A : HA) (S : HS) (g : Nat) (ns : List Int), vs = [.ref p, .int g] ∧ HouseAt C H p A S ∧ g < 4 ∧ S.told[g]? = some ns ∧ ∀ l, H l = none → Q (.ref l) (upd H l (.lst (ns.map V.int)))
structure Upto (C : Addr) (H : Hp) (p : Addr) (A : HA) (H' : Hp) (A' : HA) (S' : HS) : Prop where
 hh : HouseAt C H' p A' S'
 fr : Frame (A.foot p) H H'
 tu : Tups H H'
 gr : Grown (A.foot p) (A'.foot p) H
section
variable {C : Addr} {H H1 H2 : Hp} {p : Addr} {A A1 A2 : HA} {S1 S2 : HS} {l : Addr} {o : HO}
theorem Upto.refl {S : HS} (h : HouseAt C H p A S) : Upto C H p A H A S := ⟨h, Frame.refl _ _, Tups.refl _, Grown.refl _ _⟩
theorem Upto.step (u : Upto C H p A H1 A1 S1) (h : HouseAt C H2 p A2 S2) (fr : Frame (A1.foot p) H1 H2) (tu : Tups H1 H2) (gr : Grown (A1.foot p) (A2.foot p) H1) : Upto C H p A H2 A2 S2 where
 hh := h
 fr := fun b o e n => fr b o (u.fr b o e n) (u.gr.out e n)
 tu := u.tu.trans tu
 gr := fun b hb => by
  rcases gr b hb with z | z
  ·exact u.gr b z
  ·by_cases m : b ∈ A.foot p
   ·exact .inl m
   ·right
    cases e : H b with
    | none => rfl
    | some o => rw [u.fr b o e m] at z; cases z
theorem Upto.new (u : Upto C H p A H1 A1 S1) (n : H1 l = none) : Upto C H p A (upd H1 l o) A1 S1 :=
 u.step (u.hh.new n) (fun b o e _ => Zt e n) (Tups.new n) (Grown.refl _ _)
theorem Upto.same (u : Upto C H p A H1 A1 S1) (s : Same H1 H2) : Upto C H p A H2 A1 S1 :=
 u.step (u.hh.same s) (Frame.of_same s) (Tups.of_same s) (Grown.refl _ _)
theorem Upto.keep (u : Upto C H p A H1 A1 S1) {b : Addr} {o : HO} (e : H b = some o) (n : b ∉ A.foot p) : H1 b = some o ∧ b ∉ A1.foot p := ⟨u.fr b o e n, u.gr.out e n⟩
theorem Upto.out {Q : V → Hp → Prop} {v : V} (u : Upto C H p A H1 A1 S1) (k : Out C H p A S1 Q v) : Q v H1 := k A1 H1 u.hh u.fr u.tu u.gr
end
def LlsAt (H : Hp) (w : Addr) (al : List Addr) (xss : List (List Int)) : Prop := H w = some (.lst (al.map V.ref)) ∧ Paired (Qix H) xss al
theorem LlsAt.same {H H' : Hp} {w : Addr} {al : List Addr} {xss : List (List Int)} (s : Same H H') (h : LlsAt H w al xss) : LlsAt H' w al xss := ⟨s _ _ h.1, QQ (fun _ _ _ _ z => s _ _ z) h.2⟩
def LlsNew (H0 H : Hp) (w : Addr) (xss : List (List Int)) : Prop := ∃ al, LlsAt H w al xss ∧ (w :: al).Nodup ∧ ∀ b ∈ w :: al, H0 b = none
def Qhu (K : PySem.W.Frag) : Sp := fun vs H Q _ => ∃ (a : Addr) (ns : List Int) (many : Int), vs = [.ref a, .int many] ∧ Scr K H a ns ∧ 1 ≤ many ∧
 ∀ w xss H', Same H H' → LlsNew H H' w xss → xss.length = 4 → (∀ xs ∈ xss, xs.Nodup ∧ xs.length ≤ 8 ∧ ∀ n ∈ xs, 1 ≤ n ∧ n ≤ many) → Q (.ref w) H'
def Qfe (C : Addr) : Sp := fun vs H Q _ => ∃ (p w : Addr) (A : HA) (S : HS) (al : List Addr) (xss : List (List Int)), vs = [.ref p, .ref w] ∧ HouseAt C H p A S ∧ LlsAt H w al xss ∧ (∀ b ∈ w :: al, b ∉ A.foot p) ∧ S.queues = [[], [], [], []] ∧ xss.length = 4 ∧
 (∀ xs ∈ xss, xs.Nodup ∧ xs.length ≤ 8 ∧ ∀ n ∈ xs, n ∈ names S) ∧ Out C H p A { S with queues := xss } Q .non
def Qgq (C : Addr) : Sp := fun vs H Q _ => ∃ (p w t : Addr) (A : HA) (S : HS) (al bl : List Addr), vs = [.ref p, .ref w, .ref t] ∧ HouseAt C H p A S ∧ LlsAt H w al S.queues ∧ LlsAt H t bl S.told ∧ S.queues.length = 4 ∧ S.told.length = 4 ∧
 (∀ xs ∈ S.queues, xs.length ≤ 1000) ∧ (∀ xs ∈ S.told, xs.length ≤ 1000) ∧ ∀ H', Same H H' → Q (.bl true) H'
end LW
namespace LW
open PySem L2
section
variable {H : Hp} {W : List Rt} {i j : Nat} {r r2 : Rt}
theorem Own.chg2 (w : Own H W) (h : W[i]? = some r) (h2 : W[j]? = some r2) (hij : j ≠ i) : ∃ (F G F2 : List Addr), r.on H F ∧ F.Nodup ∧ r2.on H F2 ∧ (∀ b ∈ F2, b ∈ G) ∧ (∀ b ∈ F, b ∉ G) ∧ (∀ b ∈ G, ∃ o, H b = some o) ∧
  ∀ (H' : Hp) (r' : Rt) (F' : List Addr), r'.on H' F' → F'.Nodup → (∀ b ∈ F', b ∈ F ∨ H b = none) → (∀ b ∈ G, H' b = H b) → Imm H H' → Own H' (W.set i r') := by
 obtain ⟨Fs, p, nd⟩ := w
 obtain ⟨F, hF, q⟩ := ZK p h
 obtain ⟨F2, hF2, q2⟩ := ZK p h2
 obtain ⟨n1, n2, n3⟩ := QeW hF nd
 have mem : ∀ (m : Nat) (F3 : List Addr), m ≠ i → Fs[m]? = some F3 → ∀ b ∈ F3, b ∈ Qat Fs i := fun m F3 hm e b hb => by
  refine List.mem_flatten.mpr ⟨F3, List.mem_iff_getElem?.mpr ?_, hb⟩
  by_cases l : m < i
  ·exact ⟨m, by rw [List.getElem?_eraseIdx_of_lt l]; exact e⟩
  ·obtain ⟨k, rfl⟩ : ∃ k, m = k + 1 := ⟨m - 1, by omega⟩
   exact ⟨k, by rw [List.getElem?_eraseIdx_of_ge (by omega)]; exact e⟩
 have th : ∀ b ∈ Qat Fs i, ∃ o, H b = some o := fun b hb => by
  obtain ⟨G, hG, hb⟩ := List.mem_flatten.mp hb
  obtain ⟨j, hj⟩ := List.getElem?_of_mem (List.mem_of_mem_eraseIdx hG)
  obtain ⟨r2, _, q2⟩ := QM p hj
  exact r2.there q2 b hb
 refine ⟨F, Qat Fs i, F2, q, n1, q2, mem j F2 hij hF2, n3, th, fun H' r' F' q' nd' sub kp im => ⟨Fs.set i F', Qdr p q' fun m a b hm h1 h2 z => a.keep z (fun c hc => kp c (mem m b hm h2 c hc)) im, Qf5 hF nd' n2 fun b hb hz => ?_⟩⟩
 rcases sub b hb with z | z
 ·exact n3 b z hz
 ·obtain ⟨u, e⟩ := th b hz
  rw [z] at e; cases e
theorem Own.lls {a : Addr} {xss : List (List Int)} (w : Own H W) (h : W[i]? = some (Qgx a xss)) : ∃ al, LlsAt H a al xss := by
 obtain ⟨F, al, q1, q2, _⟩ := w.get h
 exact ⟨al, q1, q2⟩
theorem LlsNew.on {H0 : Hp} {a : Addr} {xss : List (List Int)} (h : LlsNew H0 H a xss) : ∃ F, (Qgx a xss).on H F ∧ F.Nodup ∧ ∀ b ∈ F, H0 b = none := let ⟨al, ⟨a1, a2⟩, b, c⟩ := h; ⟨_, ⟨al, a1, a2, rfl⟩, b, c⟩
theorem Own.houseLls {C p a : Addr} {S : HS} {xss : List (List Int)} (w : Own H W) (h : W[i]? = some (Qah C p S)) (h2 : W[j]? = some (Qgx a xss)) (hij : j ≠ i) : ∃ A al, HouseAt C H p A S ∧ LlsAt H a al xss ∧ (∀ b ∈ a :: al, b ∉ A.foot p) ∧
  ∀ A' H' S', HouseAt C H' p A' S' → Frame (A.foot p) H H' → Tups H H' → Grown (A.foot p) (A'.foot p) H → Own H' (W.set i (Qah C p S')) := by
 obtain ⟨F, G, F2, ⟨A, hh, rfl⟩, nd, ⟨al, q1, q2, rfl⟩, sub, dj, th, fin⟩ := w.chg2 h h2 hij
 refine ⟨A, al, hh, ⟨q1, q2⟩, fun b hb m => dj b m (sub b hb), fun A' H' S' hh' fr tu gr => fin H' _ (A'.foot p) ⟨A', hh', rfl⟩ (HA.footNd hh') gr (fun b hb => ?_) ⟨tu, hh.frz fr⟩⟩
 obtain ⟨o, e⟩ := th b hb
 rw [e]
 exact fr b o e fun m => dj b m hb
variable {ak ar : Addr} {bs : List Box} {m n : Nat} {x y : Box}
end
end LW
namespace LW
open PySem L2
theorem rdE4 {σ : St} {H : Hp} {Q : VK} (k : ∀ l H', Same H H' → LlsNew H H' l [[], [], [], []] → Q (.ref l) H') : Qjm (QgT (Qjm QiD) (QgT (Qjm QiD) (QgT (Qjm QiD) (QgT (Qjm QiD) QiD)))) σ H Q := by
 refine ⟨Nat.zero_le _, fun a0 h0 => ⟨Nat.zero_le _, fun a1 h1 => ⟨Nat.zero_le _, fun a2 h2 => ⟨Nat.zero_le _, fun a3 h3 => ⟨by show 4 ≤ sizeLine; decide, fun l hl => ?_⟩⟩⟩⟩⟩
 have n10 := Qd (Qb (H := H) (a := a0) (o := .lst [])) h1
 have n20 := Qd (Zt (o := .lst []) (Qb (H := H) (a := a0) (o := .lst [])) h1) h2
 have n21 := Qd (Qb (H := upd H a0 (.lst [])) (a := a1) (o := .lst [])) h2
 have f1 : H a1 = none := Qau h1
 have f2 : H a2 = none := Qau (Qau h2)
 have f3 : H a3 = none := Qau (Qau (Qau h3))
 have fl : H l = none := Qau (Qau (Qau (Qau hl)))
 have s4 : Same H (upd (upd (upd (upd H a0 (.lst [])) a1 (.lst [])) a2 (.lst [])) a3 (.lst [])) := ((((Same.new h0).trans (Same.new h1)).trans (Same.new h2)).trans (Same.new h3))
 have g3 : (upd (upd (upd (upd H a0 (.lst [])) a1 (.lst [])) a2 (.lst [])) a3 (.lst [])) a3 = some (.lst []) := Qb
 have g2 : (upd (upd (upd (upd H a0 (.lst [])) a1 (.lst [])) a2 (.lst [])) a3 (.lst [])) a2 = some (.lst []) := Zt Qb h3
 have g1 : (upd (upd (upd (upd H a0 (.lst [])) a1 (.lst [])) a2 (.lst [])) a3 (.lst [])) a1 = some (.lst []) := Zt (Zt Qb h2) h3
 have g0 : (upd (upd (upd (upd H a0 (.lst [])) a1 (.lst [])) a2 (.lst [])) a3 (.lst [])) a0 = some (.lst []) := Zt (Zt (Zt Qb h1) h2) h3
 have n30 : a0 ≠ a3 := Qd (Zt (Zt Qb h1) h2) h3
 have n31 : a1 ≠ a3 := Qd (Zt Qb h2) h3
 have n32 : a2 ≠ a3 := Qd Qb h3
 show Q (.ref l) (upd (upd (upd (upd (upd H a0 (.lst [])) a1 (.lst [])) a2 (.lst [])) a3 (.lst [])) l (.lst [.ref a0, .ref a1, .ref a2, .ref a3]))
 generalize upd (upd (upd (upd H a0 (.lst [])) a1 (.lst [])) a2 (.lst [])) a3 (.lst []) = H4 at s4 g0 g1 g2 g3 hl ⊢
 have m0 := Qd g0 hl
 have m1 := Qd g1 hl
 have m2 := Qd g2 hl
 have m3 := Qd g3 hl
 refine k l _ (s4.trans (Same.new hl)) ⟨[a0, a1, a2, a3], ⟨Qb, .cons (Zt g0 hl) (.cons (Zt g1 hl) (.cons (Zt g2 hl) (.cons (Zt g3 hl) .nil)))⟩, ?_, ?_⟩
 ·simp only [List.nodup_cons, List.mem_cons, List.not_mem_nil, or_false, not_or, List.nodup_nil, not_false_eq_true, and_true]
  exact ⟨⟨m0.symm, m1.symm, m2.symm, m3.symm⟩, ⟨n10, n20, n30⟩, ⟨n21, n31⟩, n32⟩
 ·intro b hb
  have hb : b = l ∨ b = a0 ∨ b = a1 ∨ b = a2 ∨ b = a3 := by simpa using hb
  rcases hb with rfl | rfl | rfl | rfl | rfl <;> assumption
end LW
namespace L2
open PySem PySem.Spec PyProof.Rows
section
variable {X : Cx} {pins : List (Addr × Obj)} {σ : St} {H : Hp} {s : Shared} {a : Addr} {kvs : List (Key × V)} {k : Key} {u r : Value} {d : V} {A : Around} {E : Value → Shared → Prop}
end
end L2
namespace LW
open PySem L2
theorem Qbr : ∀ {l m : List Int}, l.Nodup → (∀ x ∈ l, x ∈ m) → l.length ≤ m.length
 | [], _, _, _ => Nat.zero_le _
 | x :: l, m, nd, h => by
  obtain ⟨n1, n2⟩ := List.nodup_cons.mp nd
  have hx : x ∈ m := h x List.mem_cons_self
  have := Qbr (l := l) (m := m.erase x) n2 fun y hy => (List.mem_erase_of_ne (show y ≠ x from fun e => n1 (by rw [← e]; exact hy))).mpr (h y (List.mem_cons_of_mem _ hy))
  rw [List.length_erase_of_mem hx] at this
  have hp : 0 < m.length := List.length_pos_of_mem hx
  rw [List.length_cons]; omega
inductive Rw where
 | slot (n s : Int) | told (n g : Int) | bes (n : Int) | plain (n h at_ : Int) | pair (n h : Int)
def Rw.nm : Rw → Int
 | .slot n _ => n
 | .told n _ => n
 | .bes n => n
 | .plain n _ _ => n
 | .pair n _ => n
def Rw.vs : Rw → List V
 | .slot n s => [.int n, .str "slot", .int s]
 | .told n g => [.int n, .str "told", .int g]
 | .bes n => [.int n, .str "besides"]
 | .plain n h i => [.int n, .str "plain", .int h, .int i]
 | .pair n h => [.int n, .str "pair", .int h]
def isRw (H : Hp) (r : Rw) (v : V) : Prop := ∃ a, v = .ref a ∧ H a = some (.tup r.vs)
theorem isRw.keep {H H' : Hp} {r : Rw} {v : V} (t : Tups H H') (h : isRw H r v) : isRw H' r v := let ⟨a, e, q⟩ := h; ⟨a, e, t _ _ q⟩
def RowsAt (H : Hp) (l : Addr) (rows : List Rw) : Prop := ∃ vs, H l = some (.lst vs) ∧ Paired (isRw H) rows vs
structure SS where
 rows : List Rw
 locked : List (Int × List Int)
def SS.names (st : SS) : List Int := st.rows.map Rw.nm
structure SB where
 dx : Addr
 rl : Addr
 ld : Addr
 kd : Addr
 ll : List Addr
def SB.foot (B : SB) (q : Addr) : List Addr := q :: B.ld :: B.kd :: B.rl :: B.ll
def sFlds (p : Addr) (B : SB) : List (Str × V) := [("house", .ref p), ("rows", .ref B.rl), ("listed", .ref B.ld), ("locked", .ref B.kd)]
def QjK (rows : List Rw) : List (Key × V) := rows.map fun r => ((Sum.inl r.nm : Key), V.bl true)
def lockD (l : List (Int × List Int)) (al : List Addr) : List (Key × V) := (l.zip al).map fun q => ((Sum.inl q.1.1 : Key), V.ref q.2)
structure SearchAt (CS : Addr) (H : Hp) (q p : Addr) (B : SB) (st : SS) : Prop where
 ob : H q = some (.ins CS B.dx (sFlds p B))
 rl : RowsAt H B.rl st.rows
 ld : H B.ld = some (.dK (QjK st.rows))
 kd : H B.kd = some (.dK (lockD st.locked B.ll))
 ll : Paired (fun x a => Qix H x.2 a) st.locked B.ll
 nd : (B.rl :: B.ll).Nodup
 kf : B.ld ≠ B.kd
 un : st.names.Nodup
 lk : (st.locked.map (·.1)).Nodup
section
variable {p : Addr} {B : SB}
end
section
variable {CS : Addr} {H H' : Hp} {q p : Addr} {B : SB} {st : SS}
theorem SearchAt.keep (h : SearchAt CS H q p B st) (k : ∀ b ∈ B.foot q, H' b = H b) (t : Tups H H') : SearchAt CS H' q p B st where
 ob := (k q (by simp [SB.foot])).trans h.ob
 rl := let ⟨vs, a, b⟩ := h.rl; ⟨vs, (k _ (by simp [SB.foot])).trans a, QQ (fun _ _ _ _ z => z.keep t) b⟩
 ld := (k _ (by simp [SB.foot])).trans h.ld
 kd := (k _ (by simp [SB.foot])).trans h.kd
 ll := QQ (fun x a _ ha z => (k _ (by simp [SB.foot, ha])).trans z) h.ll
 nd := h.nd
 kf := h.kf
 un := h.un
 lk := h.lk
theorem SearchAt.there (h : SearchAt CS H q p B st) : ∀ b ∈ B.foot q, ∃ o, H b = some o := fun b hb => by
 have hb : b = q ∨ b = B.ld ∨ b = B.kd ∨ b = B.rl ∨ b ∈ B.ll := by simpa [SB.foot] using hb
 rcases hb with e | e | e | e | e
 ·exact ⟨_, e ▸ h.ob⟩
 ·exact ⟨_, e ▸ h.ld⟩
 ·exact ⟨_, e ▸ h.kd⟩
 ·obtain ⟨vs, z, _⟩ := h.rl; exact ⟨_, e ▸ z⟩
 ·obtain ⟨i, hi⟩ := List.getElem?_of_mem e
  obtain ⟨x, _, z⟩ := QM h.ll hi
  exact ⟨_, z⟩
theorem SearchAt.same (h : SearchAt CS H q p B st) (s : Same H H') : SearchAt CS H' q p B st := h.keep (fun b hb => by
 obtain ⟨o, e⟩ := h.there b hb
 rw [e]; exact s _ _ e) (Tups.of_same s)
theorem SearchAt.new (h : SearchAt CS H q p B st) {a : Addr} {o : HO} (n : H a = none) : SearchAt CS (upd H a o) q p B st := h.same (Same.new n)
theorem SearchAt.out (h : SearchAt CS H q p B st) {a : Addr} (n : H a = none) : a ∉ B.foot q := fun z => by
 obtain ⟨o, e⟩ := h.there a z
 rw [n] at e; cases e
end
def SS.add (st : SS) (r : Rw) : SS := if r.nm ∈ st.names then st else { st with rows := st.rows ++ [r] }
end LW
namespace LW
open PySem L2
structure HS.Ok (S : HS) : Prop where
 row : ∀ b ∈ S.boxes, ∀ t ∈ b.row, t.In (names S)
 pair : ∀ b ∈ S.boxes, b.kind = "pair" → b.row.length = 2
 slot : ∀ t ∈ S.slots, t.In (names S)
 told : ∀ xs ∈ S.told, ∀ n ∈ xs, n ∈ names S
 few : S.boxes.length ≤ 900
 eight : ∀ b ∈ S.boxes, b.row.length ≤ 900
structure SH (C CS : Addr) (H : Hp) (q p : Addr) (A : HA) (S : HS) (B : SB) (st : SS) : Prop where
 hs : SearchAt CS H q p B st
 hh : HouseAt C H p A S
 ap : ∀ b ∈ A.foot p, b ∉ B.foot q
 ins : ∀ n ∈ st.names, n ∈ names S
 ok : S.Ok
structure UpS (C CS : Addr) (H : Hp) (q p : Addr) (A : HA) (S : HS) (B : SB) (H' : Hp) (B' : SB) (st' : SS) : Prop where
 sh : SH C CS H' q p A S B' st'
 fr : Frame (B.foot q) H H'
 tu : Tups H H'
 gr : Grown (B.foot q) (B'.foot q) H
def OutH (C CS : Addr) (H : Hp) (q p : Addr) (A : HA) (S : HS) (B : SB) (st' : SS) (Q : V → Hp → Prop) (v : V) : Prop := ∀ B' H', UpS C CS H q p A S B H' B' st' → Q v H'
section
variable {C CS : Addr} {H H1 H2 : Hp} {q p l : Addr} {A : HA} {S : HS} {B B1 B2 : SB} {st st1 st2 : SS} {o : HO}
theorem SH.few (h : SH C CS H q p A S B st) : st.rows.length ≤ 900 := by
 have := Qbr h.hs.un h.ins
 have e : st.names.length = st.rows.length := by simp [SS.names]
 have e2 : (names S).length = S.boxes.length := by simp [names]
 have := h.ok.few
 omega
theorem SH.house (h : SH C CS H q p A S B st) (fr : Frame (B.foot q) H H1) (tu : Tups H H1) : HouseAt C H1 p A S := h.hh.keep (fun b hb => by
 obtain ⟨u, e⟩ := h.hh.there b hb
 rw [e]; exact fr b u e (h.ap b hb)) tu
theorem UpS.refl (h : SH C CS H q p A S B st) : UpS C CS H q p A S B H B st := ⟨h, Frame.refl _ _, Tups.refl _, Grown.refl _ _⟩
theorem UpS.step (u : UpS C CS H q p A S B H1 B1 st1) (h : SearchAt CS H2 q p B2 st2) (fr : Frame (B1.foot q) H1 H2) (tu : Tups H1 H2) (gr : Grown (B1.foot q) (B2.foot q) H1) (ins : ∀ n ∈ st2.names, n ∈ names S) : UpS C CS H q p A S B H2 B2 st2 where
 sh := ⟨h, u.sh.house fr tu, (fun b hb m => by
  rcases gr b m with z | z
  ·exact u.sh.ap b hb z
  ·obtain ⟨o, e⟩ := u.sh.hh.there b hb
   rw [z] at e
   exact nomatch e), ins, u.sh.ok⟩
 fr := fun b o e n => fr b o (u.fr b o e n) (u.gr.out e n)
 tu := u.tu.trans tu
 gr := fun b hb => by
  rcases gr b hb with z | z
  ·exact u.gr b z
  ·by_cases m : b ∈ B.foot q
   ·exact .inl m
   ·right
    cases e : H b with
    | none => rfl
    | some o => rw [u.fr b o e m] at z; cases z
theorem UpS.trans (u : UpS C CS H q p A S B H1 B1 st1) (v : UpS C CS H1 q p A S B1 H2 B2 st2) : UpS C CS H q p A S B H2 B2 st2 := u.step v.sh.hs v.fr v.tu v.gr v.sh.ins
theorem UpS.new (u : UpS C CS H q p A S B H1 B1 st1) (n : H1 l = none) : UpS C CS H q p A S B (upd H1 l o) B1 st1 :=
 u.step (u.sh.hs.new n) (fun b o e _ => Zt e n) (Tups.new n) (Grown.refl _ _) u.sh.ins
theorem UpS.keep (u : UpS C CS H q p A S B H1 B1 st1) {b : Addr} {o : HO} (e : H b = some o) (n : b ∉ B.foot q) : H1 b = some o ∧ b ∉ B1.foot q := ⟨u.fr b o e n, u.gr.out e n⟩
theorem UpS.out {Q : V → Hp → Prop} {v : V} (u : UpS C CS H q p A S B H1 B1 st1) (k : OutH C CS H q p A S B st1 Q v) : Q v H1 := k B1 H1 u
end
end LW
namespace LW
open PySem L2
def top (i : Nat) : Stmt := PySem.Challenge.pw_lastword_k18_whole_copies.main.body.getD i (.Pass ⟨0, 0, 0, 0⟩)
abbrev ZV : Stmt := top 2
theorem Qd0 : Qk ["name"] ["name"] (Qc ZV) := ⟨rfl, rfl, rfl, by decide +kernel, rfl, by decide +kernel, by decide +kernel⟩
abbrev Qad : Stmt := top 3
theorem QeI : Qk ["thing"] ["thing"] (Qc Qad) := ⟨rfl, rfl, rfl, by decide +kernel, rfl, by decide +kernel, by decide +kernel⟩
abbrev Z3 : Stmt := top 4
theorem QaM : Qk ["thing", "new_names", "name"] ["thing", "new_names"] (Qc Z3) := ⟨rfl, rfl, rfl, by decide +kernel, rfl, by decide +kernel, by decide +kernel⟩
abbrev QbC : Stmt := top 6
theorem QaF : Qk ["house", "name", "names", "listed", "at", "current", "found"] ["house", "name"] (Qc QbC) := ⟨rfl, rfl, rfl, by decide +kernel, rfl, by decide +kernel, by decide +kernel⟩
abbrev Qal : Stmt := top 7
theorem Qfm : Qk ["house", "name", "slot"] ["house", "name", "slot"] (Qc Qal) := ⟨rfl, rfl, rfl, by decide +kernel, rfl, by decide +kernel, by decide +kernel⟩
abbrev Q3 : Stmt := top 8
theorem Qb9 : Qk ["house", "name", "found"] ["house", "name"] (Qc Q3) := ⟨rfl, rfl, rfl, by decide +kernel, rfl, by decide +kernel, by decide +kernel⟩
abbrev Q9 : Stmt := top 9
theorem QdX : Qk ["house", "name"] ["house", "name"] (Qc Q9) := ⟨rfl, rfl, rfl, by decide +kernel, rfl, by decide +kernel, by decide +kernel⟩
abbrev Z8 : Stmt := top 10
theorem Qdk : Qk ["house", "name", "new_names", "things"] ["house", "name", "new_names"] (Qc Z8) := ⟨rfl, rfl, rfl, by decide +kernel, rfl, by decide +kernel, by decide +kernel⟩
abbrev QO : Stmt := top 11
theorem QaE : Qk ["house", "name", "names", "places"] ["house", "name"] (Qc QO) := ⟨rfl, rfl, rfl, by decide +kernel, rfl, by decide +kernel, by decide +kernel⟩
abbrev QgV : Stmt := top 21
theorem Qjw : Qk ["house", "besides"] ["house", "besides"] (Qc QgV) := ⟨rfl, rfl, rfl, by decide +kernel, rfl, by decide +kernel, by decide +kernel⟩
abbrev QhN : Stmt := top 22
theorem Qj5 : Qk ["house", "besides", "search"] ["house", "besides"] (Qc QhN) := ⟨rfl, rfl, rfl, by decide +kernel, rfl, by decide +kernel, by decide +kernel⟩
abbrev Qdl : Stmt := QI (top 23) 0
theorem Qhe : Qk ["self", "house"] ["self", "house"] (Qc Qdl) := ⟨rfl, rfl, rfl, by decide +kernel, rfl, by decide +kernel, by decide +kernel⟩
abbrev Qca : Stmt := QI (top 23) 1
theorem QfW : Qk ["self", "row"] ["self", "row"] (Qc Qca) := ⟨rfl, rfl, rfl, by decide +kernel, rfl, by decide +kernel, by decide +kernel⟩
abbrev QbK : Stmt := QI (top 23) 2
theorem Qfl : Qk ["self", "slot", "thing", "name"] ["self"] (Qc QbK) := ⟨rfl, rfl, rfl, by decide +kernel, rfl, by decide +kernel, by decide +kernel⟩
abbrev QbX : Stmt := QI (top 23) 3
theorem QfR : Qk ["self", "guard", "names", "name"] ["self"] (Qc QbX) := ⟨rfl, rfl, rfl, by decide +kernel, rfl, by decide +kernel, by decide +kernel⟩
abbrev Qbl : Stmt := QI (top 23) 4
theorem Qe9 : Qk ["self", "at"] ["self"] (Qc Qbl) := ⟨rfl, rfl, rfl, by decide +kernel, rfl, by decide +kernel, by decide +kernel⟩
abbrev Qcw : Stmt := QI (top 23) 5
theorem Qgu : Qk ["self", "name", "holder", "kind"] ["self", "name"] (Qc Qcw) := ⟨rfl, rfl, rfl, by decide +kernel, rfl, by decide +kernel, by decide +kernel⟩
abbrev Qbm : Stmt := QI (top 23) 6
theorem Qfa : Qk ["self", "holder", "at", "name"] ["self", "holder"] (Qc Qbm) := ⟨rfl, rfl, rfl, by decide +kernel, rfl, by decide +kernel, by decide +kernel⟩
abbrev Qa8 : Stmt := QI (top 23) 7
theorem QeF : Qk ["self", "holder", "key"] ["self", "holder"] (Qc Qa8) := ⟨rfl, rfl, rfl, by decide +kernel, rfl, by decide +kernel, by decide +kernel⟩
abbrev QbJ : Stmt := QI (top 23) 8
theorem Qfk : Qk ["self", "holder", "name"] ["self", "holder"] (Qc QbJ) := ⟨rfl, rfl, rfl, by decide +kernel, rfl, by decide +kernel, by decide +kernel⟩
abbrev QhM : Stmt := top 25
theorem Qj4 : Qk ["house", "besides", "held_ahead", "weak_broken", "told", "held_anew", "pairs_broken", "gone"] ["house", "besides"] (Qc QhM) := ⟨rfl, rfl, rfl, by decide +kernel, rfl, by decide +kernel, by decide +kernel⟩
abbrev Qd3 : Stmt := top 26
theorem QhL : Qk ["house", "held", "weak", "broken", "name"] ["house", "held"] (Qc Qd3) := ⟨rfl, rfl, rfl, by decide +kernel, rfl, by decide +kernel, by decide +kernel⟩
abbrev Qdm : Stmt := top 27
theorem Qhf : Qk ["house", "held", "told", "guard", "name"] ["house", "held"] (Qc Qdm) := ⟨rfl, rfl, rfl, by decide +kernel, rfl, by decide +kernel, by decide +kernel⟩
abbrev Qdo : Stmt := top 28
theorem Qhh : Qk ["house", "held", "pairs", "broken", "name"] ["house", "held"] (Qc Qdo) := ⟨rfl, rfl, rfl, by decide +kernel, rfl, by decide +kernel, by decide +kernel⟩
abbrev QbY : Stmt := top 29
theorem QfS : Qk ["house", "name", "held", "first"] ["house", "name", "held"] (Qc QbY) := ⟨rfl, rfl, rfl, by decide +kernel, rfl, by decide +kernel, by decide +kernel⟩
abbrev Qdn : Stmt := top 30
theorem Qhg : Qk ["house", "held", "gone", "name"] ["house", "held"] (Qc Qdn) := ⟨rfl, rfl, rfl, by decide +kernel, rfl, by decide +kernel, by decide +kernel⟩
abbrev QN : Stmt := QI (top 34) 0
theorem Qdh : Qk ["self", "room", "slots"] ["self", "room", "slots"] (Qc QN) := ⟨rfl, rfl, rfl, by decide +kernel, rfl, by decide +kernel, by decide +kernel⟩
abbrev ZB : Stmt := QI (top 34) 1
theorem Qdf : Qk ["self", "kind", "size", "slot"] ["self", "kind", "size", "slot"] (Qc ZB) := ⟨rfl, rfl, rfl, by decide +kernel, rfl, by decide +kernel, by decide +kernel⟩
abbrev Zk : Stmt := QI (top 34) 2
theorem QcR : Qk ["self"] ["self"] (Qc Zk) := ⟨rfl, rfl, rfl, by decide +kernel, rfl, by decide +kernel, by decide +kernel⟩
abbrev ZC : Stmt := QI (top 34) 3
theorem Qdg : Qk ["self", "name"] ["self", "name"] (Qc ZC) := ⟨rfl, rfl, rfl, by decide +kernel, rfl, by decide +kernel, by decide +kernel⟩
abbrev ZA : Stmt := QI (top 34) 4
theorem Qde : Qk ["self", "name"] ["self", "name"] (Qc ZA) := ⟨rfl, rfl, rfl, by decide +kernel, rfl, by decide +kernel, by decide +kernel⟩
abbrev ZN : Stmt := QI (top 34) 5
theorem QdW : Qk ["self", "name", "at", "thing"] ["self", "name", "at", "thing"] (Qc ZN) := ⟨rfl, rfl, rfl, by decide +kernel, rfl, by decide +kernel, by decide +kernel⟩
abbrev Zl : Stmt := QI (top 34) 6
theorem QcS : Qk ["self", "name", "at"] ["self", "name", "at"] (Qc Zl) := ⟨rfl, rfl, rfl, by decide +kernel, rfl, by decide +kernel, by decide +kernel⟩
abbrev ZD : Stmt := QI (top 34) 8
theorem Qdi : Qk ["self", "slot", "thing"] ["self", "slot", "thing"] (Qc ZD) := ⟨rfl, rfl, rfl, by decide +kernel, rfl, by decide +kernel, by decide +kernel⟩
abbrev ZE : Stmt := QI (top 34) 9
theorem Qdj : Qk ["self", "slot"] ["self", "slot"] (Qc ZE) := ⟨rfl, rfl, rfl, by decide +kernel, rfl, by decide +kernel, by decide +kernel⟩
abbrev Zj : Stmt := QI (top 34) 10
theorem QcQ : Qk ["self", "guard", "name"] ["self", "guard", "name"] (Qc Zj) := ⟨rfl, rfl, rfl, by decide +kernel, rfl, by decide +kernel, by decide +kernel⟩
abbrev Q4 : Stmt := QI (top 34) 13
theorem Qb7 : Qk ["self", "guard"] ["self", "guard"] (Qc Q4) := ⟨rfl, rfl, rfl, by decide +kernel, rfl, by decide +kernel, by decide +kernel⟩
abbrev Zi : Stmt := QI (top 34) 14
theorem QcP : Qk ["self", "guard"] ["self", "guard"] (Qc Zi) := ⟨rfl, rfl, rfl, by decide +kernel, rfl, by decide +kernel, by decide +kernel⟩
abbrev QZ : Stmt := QI (top 34) 15
theorem QbW : Qk ["self", "count"] ["self", "count"] (Qc QZ) := ⟨rfl, rfl, rfl, by decide +kernel, rfl, by decide +kernel, by decide +kernel⟩
abbrev QU : Stmt := QI (top 34) 16
theorem QbH : Qk ["self", "count", "besides"] ["self", "count", "besides"] (Qc QU) := ⟨rfl, rfl, rfl, by decide +kernel, rfl, by decide +kernel, by decide +kernel⟩
abbrev Qw : Stmt := QI (top 34) 17
theorem Q8 : Qk ["self", "draft", "slot", "new_names", "name", "row"] ["self", "draft", "slot"] (Qc Qw) := ⟨rfl, rfl, rfl, by decide +kernel, rfl, by decide +kernel, by decide +kernel⟩
abbrev Qd1 : Stmt := QI (top 34) 18
theorem QhJ : Qk ["self", "guard", "name"] ["self", "guard", "name"] (Qc Qd1) := ⟨rfl, rfl, rfl, by decide +kernel, rfl, by decide +kernel, by decide +kernel⟩
abbrev Qd2 : Stmt := QI (top 34) 19
theorem QhK : Qk ["self", "name"] ["self", "name"] (Qc Qd2) := ⟨rfl, rfl, rfl, by decide +kernel, rfl, by decide +kernel, by decide +kernel⟩
abbrev QR : Stmt := QI (top 34) 20
theorem Qbi : Qk ["self", "slot"] ["self", "slot"] (Qc QR) := ⟨rfl, rfl, rfl, by decide +kernel, rfl, by decide +kernel, by decide +kernel⟩
abbrev QK : Stmt := QI (top 34) 21
theorem Qa6 : Qk ["self", "guard"] ["self", "guard"] (Qc QK) := ⟨rfl, rfl, rfl, by decide +kernel, rfl, by decide +kernel, by decide +kernel⟩
abbrev QV : Stmt := QI (top 34) 22
theorem QbI : Qk ["self", "name"] ["self", "name"] (Qc QV) := ⟨rfl, rfl, rfl, by decide +kernel, rfl, by decide +kernel, by decide +kernel⟩
abbrev QJ : Stmt := QI (top 34) 23
theorem Qag : Qk ["self", "thing", "name"] ["self", "thing"] (Qc QJ) := ⟨rfl, rfl, rfl, by decide +kernel, rfl, by decide +kernel, by decide +kernel⟩
abbrev QL : Stmt := QI (top 34) 24
theorem Qa7 : Qk ["self", "name", "at"] ["self", "name", "at"] (Qc QL) := ⟨rfl, rfl, rfl, by decide +kernel, rfl, by decide +kernel, by decide +kernel⟩
abbrev Zn : Stmt := top 36
theorem QcT : Qk ["script", "k"] ["script", "k"] (Qc Zn) := ⟨rfl, rfl, rfl, by decide +kernel, rfl, by decide +kernel, by decide +kernel⟩
abbrev Qac : Stmt := top 37
theorem QeH : Qk ["script", "k"] ["script", "k"] (Qc Qac) := ⟨rfl, rfl, rfl, by decide +kernel, rfl, by decide +kernel, by decide +kernel⟩
abbrev ZF : Stmt := top 38
theorem Qbj : Qk ["script", "k", "cell"] ["script", "k"] (Qc ZF) := ⟨rfl, rfl, rfl, by decide +kernel, rfl, by decide +kernel, by decide +kernel⟩
abbrev ZQ : Stmt := top 39
theorem QbQ : Qk ["script", "k", "many", "cell"] ["script", "k", "many"] (Qc ZQ) := ⟨rfl, rfl, rfl, by decide +kernel, rfl, by decide +kernel, by decide +kernel⟩
abbrev Za : Stmt := top 40
theorem Zz : Qk ["script", "many", "kinds", "rows", "name", "cell", "size"] ["script", "many"] (Qc Za) := ⟨rfl, rfl, rfl, by decide +kernel, rfl, by decide +kernel, by decide +kernel⟩
abbrev Qab : Stmt := top 41
theorem Qb8 : Qk ["script", "cell"] ["script"] (Qc Qab) := ⟨rfl, rfl, rfl, by decide +kernel, rfl, by decide +kernel, by decide +kernel⟩
abbrev ZR : Stmt := top 42
theorem Zc : Qk ["script", "count", "many", "slots", "k", "cell", "thing"] ["script", "count", "many"] (Qc ZR) := ⟨rfl, rfl, rfl, by decide +kernel, rfl, by decide +kernel, by decide +kernel⟩
abbrev ZU : Stmt := top 43
theorem Zy : Qk ["kinds", "rows", "slots", "extra", "house", "name", "at", "thing", "slot"] ["kinds", "rows", "slots", "extra"] (Qc ZU) := ⟨rfl, rfl, rfl, by decide +kernel, rfl, by decide +kernel, by decide +kernel⟩
abbrev Zb : Stmt := top 44
theorem QdZ : Qk ["things"] ["things"] (Qc Zb) := ⟨rfl, rfl, rfl, by decide +kernel, rfl, by decide +kernel, by decide +kernel⟩
abbrev Z9 : Stmt := top 45
theorem Qaf : Qk ["rows", "name", "row", "at", "other"] ["rows", "name"] (Qc Z9) := ⟨rfl, rfl, rfl, by decide +kernel, rfl, by decide +kernel, by decide +kernel⟩
abbrev ZS : Stmt := top 46
theorem Zd : Qk ["kinds", "rows", "name", "row", "made", "other", "line", "thing"] ["kinds", "rows", "name"] (Qc ZS) := ⟨rfl, rfl, rfl, by decide +kernel, rfl, by decide +kernel, by decide +kernel⟩
abbrev ZP : Stmt := top 47
theorem ZZ : Qk ["script", "many", "waits", "k", "cell", "name"] ["script", "many"] (Qc ZP) := ⟨rfl, rfl, rfl, by decide +kernel, rfl, by decide +kernel, by decide +kernel⟩
abbrev Zm : Stmt := top 48
theorem Qar : Qk ["house", "waits", "guard", "name"] ["house", "waits"] (Qc Zm) := ⟨rfl, rfl, rfl, by decide +kernel, rfl, by decide +kernel, by decide +kernel⟩
abbrev ZO : Stmt := top 49
theorem QdY : Qk ["found"] ["found"] (Qc ZO) := ⟨rfl, rfl, rfl, by decide +kernel, rfl, by decide +kernel, by decide +kernel⟩
abbrev ZT : Stmt := top 50
theorem QbR : Qk ["found", "due", "k"] ["found", "due"] (Qc ZT) := ⟨rfl, rfl, rfl, by decide +kernel, rfl, by decide +kernel, by decide +kernel⟩
abbrev Qaa : Stmt := top 51
theorem QeG : Qk ["found", "due"] ["found", "due"] (Qc Qaa) := ⟨rfl, rfl, rfl, by decide +kernel, rfl, by decide +kernel, by decide +kernel⟩
abbrev Qaz : Stmt := top 52
theorem QaY : Qk ["house", "kinds", "rows", "slots", "name", "at", "thing", "slot"] ["house", "kinds", "rows", "slots"] (Qc Qaz) := ⟨rfl, rfl, rfl, by decide +kernel, rfl, by decide +kernel, by decide +kernel⟩
abbrev ZG : Stmt := top 53
theorem Qbk : Qk ["house", "waits", "told", "guard"] ["house", "waits", "told"] (Qc ZG) := ⟨rfl, rfl, rfl, by decide +kernel, rfl, by decide +kernel, by decide +kernel⟩
abbrev Zs : Stmt := top 54
theorem Qav : Qk ["house", "kinds", "rows", "name"] ["house"] (Qc Zs) := ⟨rfl, rfl, rfl, by decide +kernel, rfl, by decide +kernel, by decide +kernel⟩
abbrev QaZ : Stmt := top 55
theorem ZJ : Qk ["script", "many", "made", "slots", "house", "waits", "name", "slot", "row", "found", "now", "other"] ["script"] (Qc QaZ) := ⟨rfl, rfl, rfl, by decide +kernel, rfl, by decide +kernel, by decide +kernel⟩
end LW
namespace LW
open PySem L2
section
variable {P : Program} {w : World} {K : PySem.W.Frag} {mg : Str → Option Value} {base : Heap} {C : Addr}
theorem Qbq {n : Nat} {f : Addr} {fd : FuncData} (F : Fun K "check_slot" "House.check_slot" QR f fd) (T : TX K mg C)  :
  FnOk P w K mg base CX0 (n + 1) f fd ["self", "slot"] (QaC C) := by
 refine F.ok Qbi (fun vs H Q E h => ?_) (fun cdv A outer s H vs Q E hr h => ?_)
 ·obtain ⟨p, A', S, i, rfl, _⟩ := h
  rfl
 ·obtain ⟨p, A', S, i, rfl, hh, h0, h1, k⟩ := h
  have hu := Q0 hr
  refine ⟨_, (Qh (Ze (PW.pt (QeK (QS QgZ (pv 1) Qi (Zg _)) (Qcc (QS QjF (pv 1) (Qv Qs (by rfl) T.g_len PySem.boot_len (Qa (ZM (pv 0) rfl) Qf)) (Zg _))))) (Qh Qcd) QA)), ?_⟩
  obtain ⟨ws, hs, ht⟩ := hh.sl
  refine ⟨_, rfl, _, _, rfl, rfl, _, rfl, ?_⟩
  refine Qjh (by omega) ?_
  refine ⟨_, rfl, _, rfl, p, C, A'.dx, _, _, rfl, hh.ob, T.cl, T.n_slots, Qco, A'.sl, ws, rfl, .inl (SqL.of hs), _, _, rfl, rfl, _, rfl, ?_⟩
  refine Qjh (by rw [← QB ht]; omega) ?_
  exact k
theorem Qba {n : Nat} {f : Addr} {fd : FuncData} (F : Fun K "check_guard" "House.check_guard" QK f fd) (T : TX K mg C)  :
  FnOk P w K mg base CX0 (n + 1) f fd ["self", "guard"] (QaL C) := by
 refine F.ok Qa6 (fun vs H Q E h => ?_) (fun cdv A outer s H vs Q E hr h => ?_)
 ·obtain ⟨p, i, rfl, _⟩ := h
  rfl
 ·obtain ⟨p, i, rfl, h0, h1, k⟩ := h
  have hu := Q0 hr
  obtain ⟨tG, htG⟩ := T.g_guards
  refine ⟨_, (Qh (Ze (PW.pt (QeK (QS QgZ (pv 1) Qi (Zg _)) (Qcc (QS QjF (pv 1) (Qf2 (v := .int 4) (by rfl) htG ⟨tG, rfl⟩) (Zg _))))) (Qh Qcd) QA)), ?_⟩
  refine ⟨_, rfl, _, _, rfl, rfl, _, rfl, ?_⟩
  refine Qjh (by omega) ?_
  refine ⟨_, rfl, _, _, rfl, rfl, _, rfl, ?_⟩
  refine Qjh (by omega) ?_
  exact k
theorem QbM {n : Nat} {f : Addr} {fd : FuncData} (F : Fun K "check_box" "House.check_box" QV f fd) (T : TX K mg C)  :
  FnOk P w K mg base CX0 (n + 1) f fd ["self", "name"] (Z7 C) := by
 refine F.ok QbI (fun vs H Q E h => ?_) (fun cdv A outer s H vs Q E hr h => ?_)
 ·obtain ⟨p, A', S, n, rfl, _⟩ := h
  rfl
 ·obtain ⟨p, A', S, n, rfl, hh, hn, k⟩ := h
  have hu := Q0 hr
  refine ⟨_, (Qh (Ze (Qdp (Qft hu (pv 1) (ZM (pv 0) rfl))) (Qh Qcd) QA)), ?_⟩
  obtain ⟨b, hb, e⟩ := List.mem_map.mp hn
  obtain ⟨i, hi⟩ := List.getElem?_of_mem hb
  have hv := hh.kindAt hi
  rw [e] at hv
  refine ⟨_, rfl, _, rfl, p, C, A'.dx, _, _, rfl, hh.ob, T.cl, T.n_kinds, QbF, A'.kd, _, rfl, DGet.k (k := Sum.inl n) hh.kd, _, rfl, ?_⟩
  rw [hv]
  exact Qbc k
theorem Qbb {n : Nat} {f : Addr} {fd : FuncData} (F : Fun K "check_field" "House.check_field" QL f fd) (T : TX K mg C)  :
  FnOk P w K mg base CX0 (n + 1) f fd ["self", "name", "at"] (Qbg C) := by
 refine F.ok Qa7 (fun vs H Q E h => ?_) (fun cdv A outer s H vs Q E hr h => ?_)
 ·obtain ⟨p, A', S, i, b, at_, rfl, _⟩ := h
  rfl
 ·obtain ⟨p, A', S, i, b, at_, rfl, hh, hi, h0, h1, k⟩ := h
  have hu := Q0 hr
  refine ⟨_, (Qh (Ze (PW.pt (QeK (QS QgZ (pv 2) Qi (Zg _)) (Qcc (QS QjF (pv 2) (Qv Qs (by rfl) T.g_len PySem.boot_len (Qa (Zu hu (ZM (pv 0) rfl) (pv 1) (fun _ _ => rfl)) Qf)) (Zg _))))) (Qh Qcd) QA)), ?_⟩
  obtain ⟨a, ws, ha, hw, ht, hv⟩ := hh.rowAt hi
  refine ⟨_, rfl, _, _, rfl, rfl, _, rfl, ?_⟩
  refine Qjh (by omega) ?_
  refine ⟨_, rfl, _, rfl, p, C, A'.dx, _, _, rfl, hh.ob, T.cl, T.n_fields, QaR, _, rfl, A'.fd, .ref a, rfl, ?_, a, ws, rfl, .inl (SqL.of hw), _, _, rfl, rfl, _, rfl, ?_⟩
  ·rw [← hv]; exact DGet.k (k := Sum.inl b.name) hh.fd
  refine Qjh (by rw [← QB ht]; omega) ?_
  exact k
theorem Qdw {n : Nat} {f : Addr} {fd : FuncData} (F : Fun K "kind" "House.kind" ZC f fd) (T : TX K mg C) (M1_ : MethOk P w K mg base C n "check_box" ["self", "name"] (Z7 C) [[]]) :
  FnOk P w K mg base CX0 (n + 1) f fd ["self", "name"] (Qgp C) := by
 obtain ⟨f1_, fd1_, m1_, G1_, b1_⟩ := M1_
 refine F.ok Qdg (fun vs H Q E h => ?_) (fun cdv A outer s H vs Q E hr h => ?_)
 ·obtain ⟨p, A', S, i, b, rfl, _⟩ := h
  rfl
 ·obtain ⟨p, A', S, i, b, rfl, hh, hi, k⟩ := h
  have hu := Q0 hr
  refine ⟨_, (Qe (QH (Qz (pv 0) T.cl m1_ G1_ hr (b1_ [] (by simp)) .nil Qp (Qa (pv 1) Qf)))
   (Qh (Qu (Zu hu (ZM (pv 0) rfl) (pv 1) (fun _ _ => rfl))))), ?_⟩
  refine ⟨_, rfl, p, A'.dx, _, rfl, hh.ob, Qx (by decide +kernel), _, rfl, p, A', S, b.name, rfl, hh, Qc8 hi, ?_⟩
  refine ⟨_, rfl, p, C, A'.dx, _, _, rfl, hh.ob, T.cl, T.n_kinds, QbF, _, rfl, A'.kd, .str b.kind, rfl, ?_, k⟩
  rw [← hh.kindAt hi]
  exact DGet.k (k := Sum.inl b.name) hh.kd
theorem Qdu {n : Nat} {f : Addr} {fd : FuncData} (F : Fun K "size" "House.size" ZA f fd) (T : TX K mg C) (M1_ : MethOk P w K mg base C n "check_box" ["self", "name"] (Z7 C) [[]]) :
  FnOk P w K mg base CX0 (n + 1) f fd ["self", "name"] (Qgn C) := by
 obtain ⟨f1_, fd1_, m1_, G1_, b1_⟩ := M1_
 refine F.ok Qde (fun vs H Q E h => ?_) (fun cdv A outer s H vs Q E hr h => ?_)
 ·obtain ⟨p, A', S, i, b, rfl, _⟩ := h
  rfl
 ·obtain ⟨p, A', S, i, b, rfl, hh, hi, k⟩ := h
  have hu := Q0 hr
  refine ⟨_, (Qe (QH (Qz (pv 0) T.cl m1_ G1_ hr (b1_ [] (by simp)) .nil Qp (Qa (pv 1) Qf)))
   (Qh (Qu (Qv Qs (by rfl) T.g_len PySem.boot_len (Qa (Zu hu (ZM (pv 0) rfl) (pv 1) (fun _ _ => rfl)) Qf))))), ?_⟩
  obtain ⟨a, ws, ha, hw, ht, hv⟩ := hh.rowAt hi
  refine ⟨_, rfl, p, A'.dx, _, rfl, hh.ob, Qx (by decide +kernel), _, rfl, p, A', S, b.name, rfl, hh, Qc8 hi, ?_⟩
  refine ⟨_, rfl, p, C, A'.dx, _, _, rfl, hh.ob, T.cl, T.n_fields, QaR, _, rfl, A'.fd, .ref a, rfl, ?_, a, ws, rfl, .inl (SqL.of hw), ?_⟩
  ·rw [← hv]; exact DGet.k (k := Sum.inl b.name) hh.fd
  ·rw [← QB ht]; exact k
theorem QcX {n : Nat} {f : Addr} {fd : FuncData} (F : Fun K "field" "House.field" Zl f fd) (T : TX K mg C) (M1_ : MethOk P w K mg base C n "check_box" ["self", "name"] (Z7 C) [[]])
  (M2_ : MethOk P w K mg base C n "check_field" ["self", "name", "at"] (Qbg C) [[]]) :
  FnOk P w K mg base CX0 (n + 1) f fd ["self", "name", "at"] (QeC C) := by
 obtain ⟨f1_, fd1_, m1_, G1_, b1_⟩ := M1_
 obtain ⟨f2_, fd2_, m2_, G2_, b2_⟩ := M2_
 refine F.ok QcS (fun vs H Q E h => ?_) (fun cdv A outer s H vs Q E hr h => ?_)
 ·obtain ⟨p, A', S, i, b, j, t, rfl, _⟩ := h
  rfl
 ·obtain ⟨p, A', S, i, b, j, t, rfl, hh, hi, hj, k⟩ := h
  have hu := Q0 hr
  refine ⟨_, (Qe (QH (Qz (pv 0) T.cl m1_ G1_ hr (b1_ [] (by simp)) .nil Qp (Qa (pv 1) Qf)))
   (Qe (QH (Qz (pv 0) T.cl m2_ G2_ hr (b2_ [] (by simp)) .nil Qp (Qa (pv 1) (Qa (pv 2) Qf))))
   (Qh (Qu (QX QY (Zu hu (ZM (pv 0) rfl) (pv 1) (fun _ _ => rfl)) (pv 2) (fun _ _ => rfl)))))), ?_⟩
  obtain ⟨a, ws, ha, hw, ht, hv⟩ := hh.rowAt hi
  obtain ⟨v, hv2, tv⟩ := ZK ht hj
  have hlt := (List.getElem?_eq_some_iff.mp hj).1
  refine ⟨_, rfl, p, A'.dx, _, rfl, hh.ob, Qx (by decide +kernel), _, rfl, p, A', S, b.name, rfl, hh, Qc8 hi, ?_⟩
  refine ⟨_, rfl, p, A'.dx, _, rfl, hh.ob, Qx (by decide +kernel), _, rfl, _, rfl, p, A', S, i, b, j, rfl, hh, hi, by omega, by omega, ?_⟩
  refine ⟨_, rfl, p, C, A'.dx, _, _, rfl, hh.ob, T.cl, T.n_fields, QaR, _, rfl, A'.fd, .ref a, rfl, ?_, _, rfl, a, ws, j, v, rfl, rfl, SqL.of hw, ZI hv2, k v tv⟩
  rw [← hv]; exact DGet.k (k := Sum.inl b.name) hh.fd
theorem Qdz {n : Nat} {f : Addr} {fd : FuncData} (F : Fun K "held" "House.held" ZE f fd) (T : TX K mg C) (M1_ : MethOk P w K mg base C n "check_slot" ["self", "slot"] (QaC C) [[]]) :
  FnOk P w K mg base CX0 (n + 1) f fd ["self", "slot"] (Qja C) := by
 obtain ⟨f1_, fd1_, m1_, G1_, b1_⟩ := M1_
 refine F.ok Qdj (fun vs H Q E h => ?_) (fun cdv A outer s H vs Q E hr h => ?_)
 ·obtain ⟨p, A', S, j, t, rfl, _⟩ := h
  rfl
 ·obtain ⟨p, A', S, j, t, rfl, hh, hj, k⟩ := h
  have hu := Q0 hr
  refine ⟨_, (Qe (QH (Qz (pv 0) T.cl m1_ G1_ hr (b1_ [] (by simp)) .nil Qp (Qa (pv 1) Qf)))
   (Qh (Qu (QX QY (ZM (pv 0) rfl) (pv 1) (fun _ _ => rfl))))), ?_⟩
  obtain ⟨ws, hw, ht⟩ := hh.sl
  obtain ⟨v, hv2, tv⟩ := ZK ht hj
  have hlt := (List.getElem?_eq_some_iff.mp hj).1
  refine ⟨_, rfl, p, A'.dx, _, rfl, hh.ob, Qx (by decide +kernel), _, rfl, p, A', S, j, rfl, hh, by omega, by omega, ?_⟩
  exact ⟨_, rfl, p, C, A'.dx, _, _, rfl, hh.ob, T.cl, T.n_slots, Qco, _, rfl, A'.sl, ws, j, v, rfl, rfl, SqL.of hw, ZI hv2, k v tv⟩
theorem Qcg {n : Nat} {f : Addr} {fd : FuncData} (F : Fun K "waiting" "House.waiting" Q4 f fd) (T : TX K mg C) (M1_ : MethOk P w K mg base C n "check_guard" ["self", "guard"] (QaL C) [[]]) :
  FnOk P w K mg base CX0 (n + 1) f fd ["self", "guard"] (Qff C) := by
 obtain ⟨f1_, fd1_, m1_, G1_, b1_⟩ := M1_
 refine F.ok Qb7 (fun vs H Q E h => ?_) (fun cdv A outer s H vs Q E hr h => ?_)
 ·obtain ⟨p, A', S, g, ns, rfl, _⟩ := h
  rfl
 ·obtain ⟨p, A', S, g, ns, rfl, hh, hg, hq, k⟩ := h
  have hu := Q0 hr
  refine ⟨_, (Qe (QH (Qz (pv 0) T.cl m1_ G1_ hr (b1_ [] (by simp)) .nil Qp (Qa (pv 1) Qf)))
   (Qh (Qu (QaP QcM (by rfl) T.g_list PyProof.Rows.boot_list (Qa (QX QY (ZM (pv 0) rfl) (pv 1) (fun _ _ => rfl)) Qf))))), ?_⟩
  obtain ⟨a, ha, hi⟩ := ZK hh.ql hq
  refine ⟨_, rfl, p, A'.dx, _, rfl, hh.ob, Qx (by decide +kernel), _, rfl, p, g, rfl, by omega, by omega, ?_⟩
  refine ⟨_, rfl, p, C, A'.dx, _, _, rfl, hh.ob, T.cl, T.n_queues, QdL, _, rfl, A'.qs, _, g, .ref a, rfl, rfl, SqL.of hh.qs, ZI (by rw [List.getElem?_map, ha]; rfl), a, _, rfl, .inl (SqL.of hi), k⟩
theorem Qeh {n : Nat} {f : Addr} {fd : FuncData} (F : Fun K "box_thing" "box_thing" ZV f fd) (T : TX K mg C)  :
  FnOk P w K mg base CX0 (n + 1) f fd ["name"] (QaN) := by
 refine F.ok Qd0 (fun vs H Q E h => ?_) (fun cdv A outer s H vs Q E hr h => ?_)
 ·obtain ⟨n, rfl, _⟩ := h
  rfl
 ·obtain ⟨n, rfl, k⟩ := h
  have hu := Q0 hr
  refine ⟨_, (Qh (Qu (QbS (Qa Qcf (Qa (pv 0) Qf))))), ?_⟩
  exact ⟨_, rfl, by show 2 ≤ sizeLine; decide, fun a ha => k a ha⟩
theorem QeU {n : Nat} {f : Addr} {fd : FuncData} (F : Fun K "box_name" "box_name" Qad f fd) (T : TX K mg C)  :
  FnOk P w K mg base CX0 (n + 1) f fd ["thing"] (Qbh) := by
 refine F.ok QeI (fun vs H Q E h => ?_) (fun cdv A outer s H vs Q E hr h => ?_)
 ·obtain ⟨v, t, rfl, _⟩ := h
  rfl
 ·obtain ⟨v, t, rfl, tv, k⟩ := h
  have hu := Q0 hr
  refine ⟨_, (Qe (Ze (Z1 (Qv Qay (by rfl) T.g_isi PyProof.Rows.boot_isinstance (Qa (pv 0) (Qa (Qa0 (v := .ty "tuple") (by rfl) T.g_tuple PyProof.Rows.boot_tuple rfl) Qf)))) (Qh (Qu (QX Zp (pv 0) Qi (fun _ _ => rfl)))) QA)
   (Qh (Qu Qfr))), ?_⟩
  cases t with
  | non =>
   cases (show v = .non from tv)
   exact ⟨_, rfl, _, "tuple", _, false, rfl, .non, Qgl K, _, rfl, Qbc k⟩
  | num i =>
   cases (show v = .int i from tv)
   exact ⟨_, rfl, _, "tuple", _, false, rfl, .int i, Qgm K, _, rfl, Qbc k⟩
  | box n =>
   obtain ⟨a, rfl, q⟩ := tv
   exact ⟨_, rfl, _, "tuple", _, true, rfl, .tup q, Qaw _ _, _, rfl, Qcm ⟨_, rfl, a, _, 1, .int n, rfl, rfl, SqT.of q, rfl, k⟩⟩
theorem Qfu {n : Nat} {f : Addr} {fd : FuncData} (F : Fun K "renamed" "renamed" Z3 f fd) (T : TX K mg C) (D1_ : DefOk P w K mg base n "box_name" ["thing"] (Qbh) [[]])
  (D2_ : DefOk P w K mg base n "box_thing" ["name"] (QaN) [[]]) :
  FnOk P w K mg base CX0 (n + 1) f fd ["thing", "new_names"] (Qdd) := by
 obtain ⟨f1_, fd1_, n1_, k1_, J1_, c1_⟩ := D1_
 obtain ⟨f2_, fd2_, n2_, k2_, J2_, c2_⟩ := D2_
 refine F.ok QaM (fun vs H Q E h => ?_) (fun cdv A outer s H vs Q E hr h => ?_)
 ·obtain ⟨v, t, a, ns, rfl, _⟩ := h
  rfl
 ·obtain ⟨v, t, a, ns, rfl, tv, ha, k⟩ := h
  have hu := Q0 hr
  refine ⟨_, (Qe (QD (i := 2) QaM.nd rfl (Or.inl rfl) (Qm J1_ hr (by rfl) n1_ k1_ (c1_ [] (by simp)) .nil Qp (Qa (pv 0) Qf)))
   (Qe (Ze (Qdp (QgD (pv 2))) (Qh (Qu (pv 0))) QA)
   (Qh (Qu (Qm J2_ hr (by rfl) n2_ k2_ (c2_ [] (by simp)) .nil Qp (Qa (QX QY (pv 1) (pv 2) (fun _ _ => rfl)) Qf)))))), ?_⟩
  refine ⟨_, rfl, v, t, rfl, tv, ?_⟩
  cases t with
  | non => exact ⟨_, rfl, _, rfl, Qcm ⟨_, rfl, k⟩⟩
  | num i => exact ⟨_, rfl, _, rfl, Qcm ⟨_, rfl, k⟩⟩
  | box n =>
   obtain ⟨j, m, rfl, hj, k⟩ := k
   exact ⟨_, rfl, _, rfl, Qbc ⟨_, rfl, _, rfl, a, _, j, .int m, rfl, rfl, SqL.of ha, ZI (by rw [List.getElem?_map, hj]; rfl), m, rfl, k⟩⟩
theorem Qb1 {n : Nat} {f : Addr} {fd : FuncData} (F : Fun K "has_room" "House.has_room" QZ f fd) (T : TX K mg C)  :
  FnOk P w K mg base CX0 (n + 1) f fd ["self", "count"] (Qb5 C) := by
 refine F.ok QbW (fun vs H Q E h => ?_) (fun cdv A outer s H vs Q E hr h => ?_)
 ·obtain ⟨p, A', S, n, rfl, _⟩ := h
  rfl
 ·obtain ⟨p, A', S, n, rfl, hh, k⟩ := h
  have hu := Q0 hr
  refine ⟨_, (Qh (Qu (Qf3 op_le (QC Zo (Qv QfK (by rfl) T.g_len PySem.boot_len (Qa (ZM (pv 0) rfl) Qf)) (pv 1)) (ZM (pv 0) rfl) (Zg _)))), ?_⟩
  refine ⟨_, rfl, p, C, A'.dx, _, _, rfl, hh.ob, T.cl, T.n_kinds, QbF, A'.kd, _, rfl, hh.kd, _, rfl, _, _, rfl, rfl, _, rfl, p, C, A'.dx, _, _, rfl, hh.ob, T.cl, T.n_room, QjQ, _, _, rfl, rfl, ?_⟩
  have e : (Qr S.boxes).length = S.boxes.length := by simp [Qr]
  rw [e]
  exact k
theorem QbL {n : Nat} {f : Addr} {fd : FuncData} {ds : List Value} (F : FunD K "make_room" "House.make_room" QU f fd ds) (T : TX K mg C) (M1_ : MethOk P w K mg base C n "has_room" ["self", "count"] (Qb5 C) [[]]) :
  FnOk P w K mg base CX0 (n + 1) f fd ["self", "count", "besides"] (QbU C) := by
 obtain ⟨f1_, fd1_, m1_, G1_, b1_⟩ := M1_
 refine F.ok QbH (fun vs H Q E h => ?_) (fun cdv A outer s H vs Q E hr h => ?_)
 ·obtain ⟨p, A', S, n, v, rfl, _⟩ := h
  rfl
 ·obtain ⟨p, A', S, n, v, rfl, hh, hn, k⟩ := h
  have hu := Q0 hr
  refine ⟨_, (Qh (Ze (Qai (Z1 (Qz (pv 0) T.cl m1_ G1_ hr (b1_ [] (by simp)) .nil Qp (Qa (pv 1) Qf)))) Qdq QA)), ?_⟩
  refine ⟨_, rfl, p, A'.dx, _, rfl, hh.ob, Qx (by decide +kernel), _, rfl, p, A', S, n, rfl, hh, _, rfl, ?_⟩
  rw [decide_eq_true hn]
  exact Qbc k
theorem Qcr : QW (Qc Qw) ["self", "draft", "slot", "new_names", "name", "row"] (Q5 ((Qbu (QeA (Qj Qw) 1)))) "place" ["self"] [0] :=
 ⟨by rfl, by decide +kernel, by decide +kernel, by decide +kernel, by rfl, by decide +kernel, by rfl, by decide +kernel⟩
theorem Qcq : QW (Qc Qw) ["self", "draft", "slot", "new_names", "name", "row"] (Q5 ((Qbu (QeA (Qe3 (QeA (Qj Qw) 2)) 1)))) "thing" ["new_names"] [3] :=
 ⟨by rfl, by decide +kernel, by decide +kernel, by decide +kernel, by rfl, by decide +kernel, by rfl, by decide +kernel⟩
theorem QcY {n : Nat} {f : Addr} {fd : FuncData} (F : Fun K "build" "House.build" Qw f fd) (T : TX K mg C) (gz : mg "zip" = none) (M1_ : MethOk P w K mg base C n "has_room" ["self", "count"] (Qb5 C) [[]])
  (D2_ : DefOk P w K mg base n "renamed" ["thing", "new_names"] (Qdd) [[]])
  (D3_ : DefOk P w K mg base n "box_thing" ["name"] (QaN) [[]]) :
  FnOk P w K mg base CX0 (n + 1) f fd ["self", "draft", "slot"] (Qgs C) := by
 obtain ⟨f1_, fd1_, m1_, G1_, b1_⟩ := M1_
 obtain ⟨f2_, fd2_, n2_, k2_, J2_, c2_⟩ := D2_
 obtain ⟨f3_, fd3_, n3_, k3_, J3_, c3_⟩ := D3_
 refine F.ok Q8 (fun vs H Q E h => ?_) (fun cdv A outer s H vs Q E hr h => ?_)
 ·obtain ⟨p, A', S, kind, n, slot, ad, at_, al, rfl, _⟩ := h
  rfl
 ·obtain ⟨p, A', S, kind, n, slot, ad, at_, al, rfl, hh, had, hat, hal, hn, hb, hroom, hs, k⟩ := h
  have hu := Q0 hr
  refine ⟨_, (Qe (Ze (Qai (Z1 (Qz (pv 0) T.cl m1_ G1_ hr (b1_ [] (by simp)) .nil Qp (Qa (Qv Qs (by rfl) T.g_len PySem.boot_len (Qa (pv 1) Qf)) Qf)))) Qdq QA)
   (Qe (QD (i := 3) Q8.nd rfl (Or.inr rfl) (Qas Qcr rfl (Zx (by rfl) T.g_range (Qa (Qv Qs (by rfl) T.g_len PySem.boot_len (Qa (pv 1) Qf)) Qf)) (fun _ _ _ _ => ZW) (fun _ _ _ _ => (QC Zo (QC Zo (QhU (K' := K) rfl (pv 1) rfl) Qi) (pv 0)))))
   (Qe (ZX PassesOwn.never rfl (Qjb (by rfl) gz (Qa (pv 3) (Qa (pv 1) Qf))) (Qb0 rfl Q8.nd (i := 4) (j := 5) rfl rfl (Or.inl rfl) (Or.inl rfl))
   (Qe (QaG hu (ZM (pv 0) rfl) (pv 4) (QX Zp (pv 5) Qi (fun _ _ => rfl)) rfl)
   (Qh (QaG hu (ZM (pv 0) rfl) (pv 4) (Qas Qcq rfl (Z5 (QX Zp (pv 5) Qi (fun _ _ => rfl))) (fun _ _ _ _ => ZW) (fun _ _ _ _ => (Qm J2_ hr (by rfl) n2_ k2_ (c2_ [] (by simp)) .nil Qp (Qa (pv 0) (Qa (pv 1) Qf))))) rfl))))
   (Qe (Qce (pv 0) (QX QY (pv 3) (pe_un Qi4 Qi) (fun _ _ => rfl)) rfl)
   (Qe (Qen (Qm J3_ hr (by rfl) n3_ k3_ (c3_ [] (by simp)) .nil Qp (Qa (QX QY (pv 3) Qi (fun _ _ => rfl)) Qf)) (Qeq (ZM (pv 0) rfl) (pv 2) QbA))
   (Qh (Qu (QX QY (pv 3) Qi (fun _ _ => rfl))))))))), ?_⟩
  have ne1 : p ≠ A'.kd := QE hh.ob hh.kd (by intro z; cases z)
  have ne2 : p ≠ A'.fd := QE hh.ob hh.fd (by intro z; cases z)
  have neL : ∀ b ∈ A'.lists, b ≠ p ∧ b ≠ A'.kd ∧ b ≠ A'.fd := fun b hb => by
   obtain ⟨vs, q⟩ := hh.isL b hb
   exact ⟨QE q hh.ob (by intro z; cases z), QE q hh.kd (by intro z; cases z), QE q hh.fd (by intro z; cases z)⟩
  have len : (Qaq A' S).length < 1000 := by show 7 < 1000; decide
  have kl : (Qr S.boxes).length = S.boxes.length := by simp [Qr]
  have fl : (Ql S.boxes A'.fl).length = S.boxes.length := by simp [Ql, QB hh.fl]
  refine ⟨_, rfl, p, A'.dx, _, rfl, hh.ob, Qx (by decide +kernel), _, rfl, ad, _, rfl, .inl (SqL.of had), p, A', S, _, rfl, hh, _, rfl, ?_⟩
  rw [decide_eq_true (by show (S.boxes.length : Int) + (([V.ref at_].length : Nat) : Int) ≤ S.room; simp; omega)]
  refine Qbc ?_
  refine ⟨_, rfl, ad, _, rfl, .inl (SqL.of had), 1, rfl, by decide, by decide, ?_⟩
  refine QaB (lo := 0) (n := 1) (fun i ys H' => H' = H ∧ ys = (Qy (S.last + 1) i).map V.int) ⟨rfl, rfl⟩ ?_ (QaI (by omega)) ?_ ?_
  ·rintro i ys H' ⟨_, rfl⟩
   rw [List.length_map, Qo]; exact Nat.le_refl _
  ·rintro i ys H' hi ⟨rfl, rfl⟩
   dsimp only [Qb3]
   refine Qcm ⟨_, rfl, p, C, A'.dx, _, _, rfl, hh.ob, T.cl, T.n_last, Qid, _, _, rfl, rfl, _, rfl, _, _, rfl, rfl, rfl, ?_⟩
   rw [Qan, List.map_append]
   show _ = _ ++ [V.int (S.last + 1 + (i : Int))]
   rw [Int.zero_add]
  ·rintro ys H' ⟨rfl, rfl⟩ ln hln
   have e1 : (Qy (S.last + 1) 1).map V.int = [V.int (S.last + 1)] := by simp [Qy]
   rw [e1]
   have d1 : (upd H' ln (.lst [V.int (S.last + 1)])) ln = some (.lst [V.int (S.last + 1)]) := Qb
   generalize eH1 : upd H' ln (.lst [V.int (S.last + 1)]) = H1 at d1
   have s1 : Same H' H1 := by rw [← eH1]; exact Same.new hln
   have fresh : ¬ (S.last + 1) ∈ S.boxes.map (·.name) := fun m => by
    obtain ⟨b, hb, e⟩ := List.mem_map.mp m
    have := hh.top b hb
    omega
   have pk : QbZ (Qr S.boxes) (Sum.inl (S.last + 1) : Key) (V.str kind) = Qr S.boxes ++ [((Sum.inl (S.last + 1) : Key), V.str kind)] := QbD _ (hh.noName fresh)
   have pf : ∀ l, QbZ (Ql S.boxes A'.fl) (Sum.inl (S.last + 1) : Key) (V.ref l) = Ql S.boxes A'.fl ++ [((Sum.inl (S.last + 1) : Key), V.ref l)] := fun l => QbD _ (by
    refine Qbw ?_
    rw [Qae (QB hh.fl)]
    intro m
    obtain ⟨b, hb, q⟩ := List.mem_map.mp m
    rw [Sum.inl.inj q] at hb
    exact fresh hb)
   refine ⟨_, rfl, _, rfl, ln, ad, _, _, rfl, d1, s1 _ _ had, ?_⟩
   refine Qif (xs := [V.int (S.last + 1)]) (ys := [V.ref at_]) (fun i σ H2 => ∃ v_name v_row, σ = [some (.ref p), some (.ref ad), some (.int slot), some (.ref ln), v_name, v_row] ∧ H2 ln = some (.lst [V.int (S.last + 1)]) ∧ H2 ad = some (.lst [V.ref at_]) ∧
    ((i = 0 ∧ H2 = H1) ∨ (i = 1 ∧ ∃ l, H' l = none ∧ H2 p = some (.ins C A'.dx (Qaq A' S)) ∧ H2 A'.kd = some (.dK (Qr S.boxes ++ [((Sum.inl (S.last + 1) : Key), V.str kind)])) ∧
     H2 A'.fd = some (.dK (Ql S.boxes A'.fl ++ [((Sum.inl (S.last + 1) : Key), V.ref l)])) ∧ H2 l = some (.lst (List.replicate n .non)) ∧ ∀ b o, H' b = some o → b ≠ A'.kd → b ≠ A'.fd → H2 b = some o))) rfl
    ⟨_, _, rfl, d1, s1 _ _ had, .inl ⟨rfl, rfl⟩⟩ (fun i σ H2 _ ⟨_, _, _, a1, a2, _⟩ => ⟨a1, a2⟩) ?_ ?_
   ·rintro i x y σ H2 pp hx hy ⟨v1, v2, rfl, a1, a2, ⟨rfl, rfl⟩ | ⟨rfl, _⟩⟩ hpp
    ·cases hx
     cases hy
     refine ⟨pp, _, _, rfl, Qb, ?_⟩
     have s2 : Same H' (upd H2 pp (.tup [V.int (S.last + 1), V.ref at_])) := s1.trans (Same.new hpp)
     have f2 : (upd H2 pp (.tup [V.int (S.last + 1), V.ref at_])) ln = some (.lst [V.int (S.last + 1)]) := Zt d1 hpp
     generalize upd H2 pp (.tup [V.int (S.last + 1), V.ref at_]) = H3 at s2 f2 ⊢
     have hh3 := hh.same s2
     refine ⟨_, rfl, at_, _, 0, _, rfl, rfl, SqT.of (s2 _ _ hat), rfl, _, rfl, p, C, A'.dx, _, _, rfl, hh3.ob, T.cl, T.n_kinds, QbF, _, rfl, A'.kd, _, rfl, DPut.k (k := Sum.inl (S.last + 1)) hh3.kd (QP (by omega)), ?_⟩
     rw [pk]
     have k4 : ∀ b o, H3 b = some o → b ≠ A'.kd → (upd H3 A'.kd (.dK (Qr S.boxes ++ [((Sum.inl (S.last + 1) : Key), V.str kind)]))) b = some o := fun b o q nb => by rw [Qg nb]; exact q
     have e4 : (upd H3 A'.kd (.dK (Qr S.boxes ++ [((Sum.inl (S.last + 1) : Key), V.str kind)]))) A'.kd = some (.dK (Qr S.boxes ++ [((Sum.inl (S.last + 1) : Key), V.str kind)])) := Qb
     have u4 : ∀ b, (upd H3 A'.kd (.dK (Qr S.boxes ++ [((Sum.inl (S.last + 1) : Key), V.str kind)]))) b = none → H3 b = none := fun b z => Qau z
     generalize upd H3 A'.kd (.dK (Qr S.boxes ++ [((Sum.inl (S.last + 1) : Key), V.str kind)])) = H4 at k4 e4 u4 ⊢
     have hat4 := k4 _ _ (s2 _ _ hat) (QE (s2 _ _ hat) hh3.kd (by intro z; cases z))
     have hal4 := k4 _ _ (s2 _ _ hal) (QE (s2 _ _ hal) hh3.kd (by intro z; cases z))
     have hln4 := k4 _ _ f2 (QE f2 hh3.kd (by intro z; cases z))
     have had4 := k4 _ _ (s2 _ _ had) (QE (s2 _ _ had) hh3.kd (by intro z; cases z))
     have hp4 := k4 _ _ hh3.ob ne1
     have hf4 := k4 _ _ hh3.fd hh3.kf.symm
     refine ⟨_, rfl, at_, _, 1, _, rfl, rfl, SqT.of hat4, rfl, al, rfl, ⟨_, SqL.of hal4⟩, ?_⟩
     refine QaT (xs := List.replicate n V.non) (fun j ys H5 => H5 = H4 ∧ ys = List.replicate j V.non) ⟨rfl, rfl⟩ ?_ (QaI (by simp; omega)) ?_ ?_ ?_
     ·rintro j ys H5 ⟨_, rfl⟩
      simp
     ·rintro j ys H5 _ ⟨rfl, _⟩
      exact SqL.of hal4
     ·rintro j x ys H5 hx ⟨rfl, rfl⟩
      dsimp only [Qb3]
      have ex : x = .non := List.eq_of_mem_replicate (List.mem_of_getElem? hx)
      subst ex
      refine Qcm ⟨_, rfl, _, rfl, V.non, LW.T.non, ln, [S.last + 1], rfl, rfl, hln4, rfl, ?_⟩
      rw [List.replicate_succ']
     ·rintro ys H5 ⟨rfl, rfl⟩ l hl
      rw [List.length_replicate]
      have nl := s2.free (u4 l hl)
      have lf : l ≠ A'.fd := (Qd hh.fd nl).symm
      refine ⟨_, rfl, p, C, A'.dx, _, _, rfl, Zt hp4 hl, T.cl, T.n_fields, QaR, _, rfl, A'.fd, _, rfl, DPut.k (kvs := Ql S.boxes A'.fl) (k := Sum.inl (S.last + 1)) (Zt hf4 hl) (QP (by omega)), ?_⟩
      rw [pf]
      have up : ∀ {b o}, H5 b = some o → b ≠ A'.fd → (upd (upd H5 l (.lst (List.replicate n V.non))) A'.fd (.dK (Ql S.boxes A'.fl ++ [((Sum.inl (S.last + 1) : Key), V.ref l)]))) b = some o := fun q nb => by rw [Qg nb]; exact Zt q hl
      refine ⟨_, _, rfl, up hln4 (QE hln4 hf4 (by intro z; cases z)), up had4 (QE had4 hf4 (by intro z; cases z)), .inr ⟨rfl, l, nl, up hp4 ne2, up e4 hh.kf, Qb, by rw [Qg lf]; exact Qb, fun b o q n1 n2 => up (k4 _ _ (s2 _ _ q) n1) n2⟩⟩
    ·simp at hx
   ·rintro σ H2 ⟨v1, v2, rfl, a1, a2, ⟨z, _⟩ | ⟨_, l, nl, b1, b2, b3, b4, b5⟩⟩
    ·cases z
    refine ⟨_, rfl, _, rfl, ln, _, -1, _, rfl, rfl, SqL.of a1, rfl, _, rfl, p, C, A'.dx, _, rfl, b1, T.cl, T.n_last, len, ?_⟩
    rw [QfD]
    have nlp : l ≠ p := (Qd hh.ob nl).symm
    have nll : ∀ b ∈ A'.lists, b ≠ l := fun b hb => by
     obtain ⟨vs, q⟩ := hh.isL b hb
     exact Qd q nl
    have hh3 : HouseAt C (upd H2 p (.ins C A'.dx (Qaq A' { S with last := S.last + 1 }))) p { A' with fl := A'.fl ++ [l] } (S.built kind n) := by
     refine hh.built (l := l) Qb (by rw [Qg ne1.symm]; exact b2) (by rw [Qg ne2.symm]; exact b3) (by rw [Qg nlp]; exact b4) (fun z => nll l z rfl) (fun b hb => ?_) fun b xs q => ?_
     ·obtain ⟨a1, a2, a3⟩ := neL b hb
      obtain ⟨vs, q⟩ := hh.isL b hb
      rw [Qg a1, b5 _ _ q a2 a3, q]
     ·rw [Qg (QE q hh.ob (by intro z; cases z))]
      exact b5 _ _ q (QE q hh.kd (by intro z; cases z)) (QE q hh.fd (by intro z; cases z))
    have a3 : (upd H2 p (.ins C A'.dx (Qaq A' { S with last := S.last + 1 }))) ln = some (.lst [V.int (S.last + 1)]) := by rw [Qg (QE a1 b1 (by intro z; cases z))]; exact a1
    have b6 : ∀ b o, H' b = some o → b ≠ p → b ≠ A'.kd → b ≠ A'.fd → (upd H2 p (.ins C A'.dx (Qaq A' { S with last := S.last + 1 }))) b = some o := fun b o q n0 n1 n2 => by rw [Qg n0]; exact b5 b o q n1 n2
    generalize upd H2 p (.ins C A'.dx (Qaq A' { S with last := S.last + 1 })) = H3 at hh3 a3 b6 ⊢
    refine ⟨_, rfl, ln, _, 0, _, rfl, rfl, SqL.of a3, rfl, S.last + 1, rfl, fun a ha => ?_⟩
    have hh4 := hh3.new (o := .tup [.str "box", .int (S.last + 1)]) ha
    obtain ⟨ws, hw, ht⟩ := hh4.sl
    have hl : ws.length = S.slots.length := (QB ht).symm
    refine ⟨_, rfl, p, C, A'.dx, _, _, rfl, hh4.ob, T.cl, T.n_slots, Qco, _, rfl, A'.sl, ws, slot, slot, rfl, rfl, hw, Qcy (by omega), ?_⟩
    have nls : ln ≠ A'.sl := fun e => by
     obtain ⟨vs, q⟩ := hh.isL A'.sl (by simp [HA.lists])
     rw [← e, hln] at q; cases q
    refine ⟨_, rfl, ln, _, 0, _, rfl, rfl, SqL.of (by rw [Qg nls]; exact Zt a3 ha), rfl, ?_⟩
    have hh5 := hh4.setSlot (j := slot) (t := .box (S.last + 1)) (v := .ref a) hw ht ⟨a, rfl, Qb⟩
    refine k { A' with fl := A'.fl ++ [l] } _ hh5 (fun b o q nb => ?_) (fun b xs q => ?_) (fun b hb => ?_)
    ·have nb : b ≠ p ∧ b ≠ A'.kd ∧ b ≠ A'.fd ∧ b ≠ A'.sl := by simp [HA.foot, HA.lists] at nb; exact ⟨nb.1, nb.2.1, nb.2.2.1, nb.2.2.2.1⟩
     rw [Qg nb.2.2.2]
     exact Zt (b6 b o q nb.1 nb.2.1 nb.2.2.1) ha
    ·have q3 := b6 b _ q (QE q hh.ob (by intro z; cases z)) (QE q hh.kd (by intro z; cases z)) (QE q hh.fd (by intro z; cases z))
     have q4 := Zt (o := .tup [.str "box", .int (S.last + 1)]) q3 ha
     rw [Qg (QE q4 hw (by intro z; cases z))]
     exact q4
    ·have hb : b = l ∨ b ∈ A'.foot p := by
      simp only [HA.foot, HA.lists, List.mem_cons, List.mem_append, List.not_mem_nil, or_false] at hb ⊢
      rcases hb with h | h | h | h | h | h | (h | h) | h | h <;> simp [h]
     rcases hb with e | e
     ·right; rw [e]; exact nl
     ·exact .inl e
theorem Qdv {n : Nat} {f : Addr} {fd : FuncData} {ds : List Value} (F : FunD K "make" "House.make" ZB f fd ds) (T : TX K mg C) {aF : Addr} (hF : mg "FIXED_SIZES" = some (.ref aF)) (KD : Qi1 P w K aF QiV) (M1_ : MethOk P w K mg base C n "check_slot" ["self", "slot"] (QaC C) [[]])
  (M2_ : MethOk P w K mg base C n "make_room" ["self", "count", "besides"] (QbU C) [[], [.none]])
  (M3_ : MethOk P w K mg base C n "build" ["self", "draft", "slot"] (Qgs C) [[]]) :
  FnOk P w K mg base CX0 (n + 1) f fd ["self", "kind", "size", "slot"] (QhB C) := by
 obtain ⟨f1_, fd1_, m1_, G1_, b1_⟩ := M1_
 obtain ⟨f2_, fd2_, m2_, G2_, b2_⟩ := M2_
 obtain ⟨f3_, fd3_, m3_, G3_, b3_⟩ := M3_
 refine F.ok Qdf (fun vs H Q E h => ?_) (fun cdv A outer s H vs Q E hr h => ?_)
 ·obtain ⟨p, A', S, kind, size, slot, rfl, _⟩ := h
  rfl
 ·obtain ⟨p, A', S, kind, size, slot, rfl, hh, h0, h1, hb, hroom, hs, k⟩ := h
  have hu := Q0 hr
  refine ⟨_, (Qe (QH (Qz (pv 0) T.cl m1_ G1_ hr (b1_ [] (by simp)) .nil Qp (Qa (pv 3) Qf)))
   (Qe (QH (Qz (pv 0) T.cl m2_ G2_ hr (b2_ [.none] (by simp)) vals_n Qp (Qa Qi Qf)))
   (Qh (Qu (Qz (pv 0) T.cl m3_ G3_ hr (b3_ [] (by simp)) .nil Qp (Qa (ZY (Qa (QbS (Qa (pv 1) (Qa (QC Qjd (ZY (Qa Qfr Qf)) (QiI KD (by rfl) hF (pv 1) (pv 2) ⟨rfl, rfl, rfl, rfl⟩)) Qf))) Qf)) (Qa (pv 3) Qf))))))), ?_⟩
  refine ⟨_, rfl, p, A'.dx, _, rfl, hh.ob, Qx (by decide +kernel), _, rfl, p, A', S, slot, rfl, hh, by omega, by omega, ?_⟩
  refine ⟨_, rfl, p, A'.dx, _, rfl, hh.ob, Qx (by decide +kernel), p, A', S, 1, .non, rfl, hh, by omega, ?_⟩
  refine ⟨_, rfl, p, A'.dx, _, rfl, hh.ob, Qx (by decide +kernel), _, rfl, by decide, fun l0 hl0 => ⟨_, rfl, _, rfl, Sum.inr kind, rfl, ?_⟩⟩
  rw [Qig]
  refine ⟨l0, _, [V.non], rfl, rfl, Qb, by omega, by omega, by rw [PySem.sizeLine_eq]; simp; omega, fun l hl => ?_⟩
  rw [QgK]
  refine ⟨by show 2 ≤ sizeLine; decide, fun t ht => ⟨by show 1 ≤ sizeLine; decide, fun d hd => ?_⟩⟩
  have s1 : Same H (upd H l0 (.lst [V.non])) := Same.new hl0
  have s2 := s1.trans (Same.new (o := .lst (List.replicate (Qap kind size).toNat V.non)) hl)
  have s3 := s2.trans (Same.new (o := .tup [.str kind, .ref l]) ht)
  have s4 := s3.trans (Same.new (o := .lst [.ref t]) hd)
  refine ⟨_, rfl, p, A', S, kind, (Qap kind size).toNat, slot, d, t, l, rfl, hh.same s4, Qb, Zt Qb hd, Zt (Zt Qb ht) hd, by omega, hb, hroom, hs, fun A2 H2 hh2 fr2 tu2 gr2 => ?_⟩
  exact k A2 H2 hh2 (fun b o q nb => fr2 b o (s4 b o q) nb) ((Tups.of_same s4).trans tu2) (fun b hb => (gr2 b hb).imp id fun z => s4.free z)
theorem QcC : QW (Qc QN) ["self", "room", "slots"] (Q5 ((Qbu (QeA (Qj QN) 5)))) "guard" [] [] :=
 ⟨by rfl, by decide +kernel, by decide +kernel, by decide +kernel, by rfl, by decide +kernel, by rfl, by decide +kernel⟩
theorem QcB : QW (Qc QN) ["self", "room", "slots"] (Q5 ((Qbu (QeA (Qj QN) 6)))) "guard" [] [] :=
 ⟨by rfl, by decide +kernel, by decide +kernel, by decide +kernel, by rfl, by decide +kernel, by rfl, by decide +kernel⟩
theorem Qdx {n : Nat} {f : Addr} {fd : FuncData} {ds : List Value} (F : FunD K "__init__" "House.__init__" QN f fd ds) (T : TX K mg C)  :
  FnOk P w K mg base CX0 (n + 1) f fd ["self", "room", "slots"] (Qi8 C) := by
 refine F.ok Qdh (fun vs H Q E h => ?_) (fun cdv A outer s H vs Q E hr h => ?_)
 ·obtain ⟨p, dx, room, n, rfl, _⟩ := h
  rfl
 ·obtain ⟨p, dx, room, n, rfl, hp, h0, h1, k⟩ := h
  have hu := Q0 hr
  obtain ⟨tG, htG⟩ := T.g_guards
  refine ⟨_, (Qe (Qce (pv 0) (pv 1) rfl)
   (Qe (Qce (pv 0) (QC Qjd (ZY (Qa Qfr Qf)) (pv 2)) rfl)
   (Qe (Qce (pv 0) Qi rfl)
   (Qe (Qce (pv 0) QbE rfl)
   (Qe (Qce (pv 0) QbE rfl)
   (Qe (Qce (pv 0) (Qas QcC rfl (Zx (by rfl) T.g_range (Qa (Qf2 (v := .int 4) (by rfl) htG ⟨tG, rfl⟩) Qf)) (fun _ _ _ _ => ZW) (fun _ _ _ _ => (ZY Qf))) rfl)
   (Qh (Qce (pv 0) (Qas QcB rfl (Zx (by rfl) T.g_range (Qa (Qf2 (v := .int 4) (by rfl) htG ⟨tG, rfl⟩) Qf)) (fun _ _ _ _ => ZW) (fun _ _ _ _ => (ZY Qf))) rfl)))))))), ?_⟩
  refine ⟨_, rfl, _, rfl, p, C, dx, _, rfl, hp, T.cl, T.n_room, (by show 0 < 1000; decide), ?_⟩
  refine ⟨by decide, fun l0 hl0 => ⟨_, rfl, l0, _, [V.non], rfl, rfl, Qb, by omega, by omega, by rw [PySem.sizeLine_eq]; simp; omega, fun l hl => ?_⟩⟩
  rw [QgK]
  have p0 : p ≠ l0 := Qd Qb hl0
  have p1 : p ≠ l := Qd (by rw [Qg p0]; exact Qb) hl
  refine ⟨_, rfl, p, C, dx, _, rfl, (by rw [Qg p1, Qg p0]; exact Qb), T.cl, T.n_slots, (by show 1 < 1000; decide), ?_⟩
  refine ⟨_, rfl, p, C, dx, _, rfl, Qb, T.cl, T.n_last, (by show 2 < 1000; decide), ?_⟩
  intro d1 hd1
  have p2 : p ≠ d1 := Qd Qb hd1
  refine ⟨_, rfl, p, C, dx, _, rfl, (by rw [Qg p2]; exact Qb), T.cl, T.n_kinds, (by show 3 < 1000; decide), ?_⟩
  intro d2 hd2
  have p3 : p ≠ d2 := Qd Qb hd2
  refine ⟨_, rfl, p, C, dx, _, rfl, (by rw [Qg p3]; exact Qb), T.cl, T.n_fields, (by show 4 < 1000; decide), ?_⟩
  dsimp only [tSeq, sFld]
  refine comp4 fun as Ha la na ha sa q hq => ?_
  have eP := sa p _ Qb
  have p4 : p ≠ q := Qd eP hq
  refine ⟨_, rfl, p, C, dx, _, rfl, (by rw [Qg p4]; exact eP), T.cl, T.n_queues, (by show 5 < 1000; decide), ?_⟩
  refine comp4 fun bs Hb lb nb hb sb tt htt => ?_
  have eP2 := sb p _ Qb
  have p5 : p ≠ tt := Qd eP2 htt
  refine ⟨_, rfl, p, C, dx, _, rfl, (by rw [Qg p5]; exact eP2), T.cl, T.n_told, (by show 6 < 1000; decide), ?_⟩
  rw [Qib]
  have eL := sa l _ (QdI (Zt (QdI (Zt (QdI (QdI Qb p1.symm) p1.symm) hd1) p1.symm) hd2) p1.symm)
  have eD1 := sa d1 _ (QdI (Zt (QdI Qb p2.symm) hd2) p2.symm)
  have eD2 := sa d2 _ (QdI Qb p3.symm)
  have eA : ∀ a ∈ as, a ≠ p := fun a m => (Qd Qb (ha a m).1).symm
  have eB : ∀ a ∈ bs, a ≠ p := fun a m => (Qd Qb (hb a m).1).symm
  have up2 : ∀ {o o' : HO} (b : Addr) (u : HO), b ≠ p → Hb b = some u → upd (upd Hb tt o) p o' b = some u := fun b u n h => QdI (Zt h htt) n
  have upB : ∀ (b : Addr) (u : HO), b ≠ p → Ha b = some u → Hb b = some u := fun b u n h => sb _ _ (QdI (Zt h hq) n)
  have low : ∀ (b : Addr) (u : HO), b ≠ p → H b = some u → Ha b = some u := fun b u n h => sa _ _ (QdI (Zt (QdI (Zt (QdI (QdI (Zt (Zt (QdI h n) hl0) hl) n) n) hd1) n) hd2) n)
  have eQ := sb q _ (QdI Qb p4.symm)
  have fl : H l = none := Qau (Qau hl)
  have f1 : H d1 = none := Qau (Qau (Qau (Qau (Qau hd1))))
  have f2 : H d2 = none := Qau (Qau (Qau (Qau (Qau (Qau (Qau hd2))))))
  have gone : ∀ b : Addr, Ha b = none → b ≠ p → H b = none := fun b h n => by
   cases e : H b with
   | none => rfl
   | some u => rw [low b u n e] at h; cases h
  have fA : ∀ a ∈ as, H a = none := fun a m => Qau (Qau (Qau (Qau (Qau (Qau (Qau (Qau (Qau (ha a m).1))))))))
  have fB : ∀ a ∈ bs, Ha a = none := fun a m => Qau (Qau (hb a m).1)
  have nT : ∀ b u, Hb b = some u → b ≠ tt := fun b u h => Qd h htt
  have tt0 : Ha tt = none := by
   cases e : Ha tt with
   | none => rfl
   | some u => rw [upB tt u p5.symm e] at htt; cases htt
  refine k ⟨dx, l, d1, d2, [], q, as, tt, bs⟩ _ ⟨Qb, ⟨_, up2 _ _ p1.symm (upB _ _ p1.symm eL), QhS (show isT _ .non .non from rfl) _⟩, up2 _ _ p2.symm (upB _ _ p2.symm eD1), up2 _ _ p3.symm (upB _ _ p3.symm eD2), .nil,
   up2 _ _ p4.symm eQ, QhX la fun a m => up2 _ _ (eA a m) (upB _ _ (eA a m) (ha a m).2), QdI Qb p5.symm, QhX lb fun a m => up2 _ _ (eB a m) (hb a m).2, ?_, ?_, List.Pairwise.nil, fun b hb => by cases hb⟩
   (fun b o h n => ?_) (fun b xs h => ?_) (fun b hb => ?_)
  ·show (l :: q :: tt :: ([] ++ (as ++ bs))).Nodup
   have l1 : l ≠ q := Qd eL hq
   have l2 : l ≠ tt := nT _ _ (upB _ _ p1.symm eL)
   have l3 : l ∉ as := fun m => by
    have z := (ha l m).1
    rw [QdI (Zt (QdI (Zt (QdI (QdI Qb p1.symm) p1.symm) hd1) p1.symm) hd2) p1.symm] at z
    cases z
   have l4 : l ∉ bs := fun m => by rw [fB l m] at eL; cases eL
   have q1 : q ≠ tt := nT _ _ eQ
   have q2 : q ∉ as := fun m => by rw [(ha q m).2] at hq; cases hq
   have q3 : q ∉ bs := fun m => by
    have z := (hb q m).1
    rw [QdI Qb p4.symm] at z
    cases z
   have t1 : tt ∉ as := fun m => by rw [(ha tt m).2] at tt0; cases tt0
   have t2 : tt ∉ bs := fun m => by rw [(hb tt m).2] at htt; cases htt
   have ab : ∀ x ∈ as, ∀ y ∈ bs, x ≠ y := fun x hx y hy e => by
    subst e
    have z := fB x hy
    rw [(ha x hx).2] at z
    cases z
   simp only [List.nil_append, List.nodup_cons, List.mem_cons, List.mem_append, not_or]
   exact ⟨⟨l1, l2, l3, l4⟩, ⟨q1, q2, q3⟩, ⟨t1, t2⟩, List.nodup_append.mpr ⟨na, nb, ab⟩⟩
  ·exact Qd (QdI Qb p2.symm) hd2
  ·have n : b ≠ p := by simpa using n
   exact up2 _ _ n (upB _ _ n (low _ _ n h))
  ·have n : b ≠ p := QE h hp (by intro z; cases z)
   exact up2 _ _ n (upB _ _ n (low _ _ n h))
  ·have hb' : b = p ∨ b = d1 ∨ b = d2 ∨ b = l ∨ b = q ∨ b = tt ∨ b ∈ as ∨ b ∈ bs := by simpa [HA.foot, HA.lists] using hb
   rcases hb' with e | e | e | e | e | e | e | e
   ·left; simp [e]
   ·right; rw [e]; exact f1
   ·right; rw [e]; exact f2
   ·right; rw [e]; exact fl
   ·right; rw [e]; exact gone q hq p4.symm
   ·right; rw [e]; exact gone tt tt0 p5.symm
   ·right; exact fA b e
   ·right; exact gone b (fB b e) (eB b e)
theorem Qa9 {n : Nat} {f : Addr} {fd : FuncData} (F : Fun K "check_thing" "House.check_thing" QJ f fd) (T : TX K mg C) (D1_ : DefOk P w K mg base n "box_name" ["thing"] (Qbh) [[]])
  (M2_ : MethOk P w K mg base C n "check_box" ["self", "name"] (Z7 C) [[]]) :
  FnOk P w K mg base CX0 (n + 1) f fd ["self", "thing"] (Qbf C) := by
 obtain ⟨f1_, fd1_, n1_, k1_, J1_, c1_⟩ := D1_
 obtain ⟨f2_, fd2_, m2_, G2_, b2_⟩ := M2_
 refine F.ok Qag (fun vs H Q E h => ?_) (fun cdv A outer s H vs Q E hr h => ?_)
 ·obtain ⟨p, A', S, v, t, rfl, _⟩ := h
  rfl
 ·obtain ⟨p, A', S, v, t, rfl, hh, tv, hn, k⟩ := h
  have hu := Q0 hr
  refine ⟨_, (Qe (QD (i := 2) Qag.nd rfl (Or.inl rfl) (Qm J1_ hr (by rfl) n1_ k1_ (c1_ [] (by simp)) .nil Qp (Qa (pv 1) Qf)))
   (Qh (Ze (Qdp (QhW (pv 2))) (Qh (QH (Qz (pv 0) T.cl m2_ G2_ hr (b2_ [] (by simp)) .nil Qp (Qa (pv 2) Qf)))) QA))), ?_⟩
  refine ⟨_, rfl, v, t, rfl, tv, ?_⟩
  cases t with
  | non => exact ⟨_, rfl, _, rfl, Qbc k⟩
  | num i => exact ⟨_, rfl, _, rfl, Qbc k⟩
  | box n => exact ⟨_, rfl, _, rfl, Qcm ⟨_, rfl, p, A'.dx, _, rfl, hh.ob, Qx (by decide +kernel), _, rfl, p, A', S, n, rfl, hh, hn n rfl, k⟩⟩
theorem Qd5 {n : Nat} {f : Addr} {fd : FuncData} (F : Fun K "put" "House.put" ZN f fd) (T : TX K mg C) (M1_ : MethOk P w K mg base C n "check_box" ["self", "name"] (Z7 C) [[]])
  (M2_ : MethOk P w K mg base C n "check_thing" ["self", "thing"] (Qbf C) [[]])
  (M3_ : MethOk P w K mg base C n "check_field" ["self", "name", "at"] (Qbg C) [[]]) :
  FnOk P w K mg base CX0 (n + 1) f fd ["self", "name", "at", "thing"] (Qjt C) := by
 obtain ⟨f1_, fd1_, m1_, G1_, b1_⟩ := M1_
 obtain ⟨f2_, fd2_, m2_, G2_, b2_⟩ := M2_
 obtain ⟨f3_, fd3_, m3_, G3_, b3_⟩ := M3_
 refine F.ok QdW (fun vs H Q E h => ?_) (fun cdv A outer s H vs Q E hr h => ?_)
 ·obtain ⟨p, A', S, i, b, at_, v, t, rfl, _⟩ := h
  rfl
 ·obtain ⟨p, A', S, i, b, at_, v, t, rfl, hh, hi, hat, tv, hn, k⟩ := h
  have hu := Q0 hr
  refine ⟨_, (Qe (QH (Qz (pv 0) T.cl m1_ G1_ hr (b1_ [] (by simp)) .nil Qp (Qa (pv 1) Qf)))
   (Qe (QH (Qz (pv 0) T.cl m2_ G2_ hr (b2_ [] (by simp)) .nil Qp (Qa (pv 3) Qf)))
   (Qe (QH (Qz (pv 0) T.cl m3_ G3_ hr (b3_ [] (by simp)) .nil Qp (Qa (pv 1) (Qa (pv 2) Qf))))
   (Qh (Qen (pv 3) (Qeq (Zu hu (ZM (pv 0) rfl) (pv 1) (fun _ _ => rfl)) (pv 2) QbA)))))), ?_⟩
  obtain ⟨a, ws, ha, hw, ht, hv⟩ := hh.rowAt hi
  refine ⟨_, rfl, p, A'.dx, _, rfl, hh.ob, Qx (by decide +kernel), _, rfl, p, A', S, b.name, rfl, hh, Qc8 hi, ?_⟩
  refine ⟨_, rfl, p, A'.dx, _, rfl, hh.ob, Qx (by decide +kernel), _, rfl, p, A', S, v, t, rfl, hh, tv, hn, ?_⟩
  refine ⟨_, rfl, p, A'.dx, _, rfl, hh.ob, Qx (by decide +kernel), _, rfl, _, rfl, p, A', S, i, b, at_, rfl, hh, hi, by omega, by omega, ?_⟩
  refine ⟨_, rfl, _, rfl, p, C, A'.dx, _, _, rfl, hh.ob, T.cl, T.n_fields, QaR, _, rfl, A'.fd, .ref a, rfl, ?_, _, rfl, a, ws, at_, at_, rfl, rfl, hw, Qcy (by rw [← QB ht]; exact hat), ?_⟩
  ·rw [← hv]; exact DGet.k (k := Sum.inl b.name) hh.fd
  exact hh.outOne (by simp [HA.lists, List.mem_of_getElem? ha]) hw (hh.setField hi ha hw ht tv) k
theorem Qdy {n : Nat} {f : Addr} {fd : FuncData} (F : Fun K "hold" "House.hold" ZD f fd) (T : TX K mg C) (M1_ : MethOk P w K mg base C n "check_slot" ["self", "slot"] (QaC C) [[]])
  (M2_ : MethOk P w K mg base C n "check_thing" ["self", "thing"] (Qbf C) [[]]) :
  FnOk P w K mg base CX0 (n + 1) f fd ["self", "slot", "thing"] (Qi9 C) := by
 obtain ⟨f1_, fd1_, m1_, G1_, b1_⟩ := M1_
 obtain ⟨f2_, fd2_, m2_, G2_, b2_⟩ := M2_
 refine F.ok Qdi (fun vs H Q E h => ?_) (fun cdv A outer s H vs Q E hr h => ?_)
 ·obtain ⟨p, A', S, j, v, t, rfl, _⟩ := h
  rfl
 ·obtain ⟨p, A', S, j, v, t, rfl, hh, hj, tv, hn, k⟩ := h
  have hu := Q0 hr
  refine ⟨_, (Qe (QH (Qz (pv 0) T.cl m1_ G1_ hr (b1_ [] (by simp)) .nil Qp (Qa (pv 1) Qf)))
   (Qe (QH (Qz (pv 0) T.cl m2_ G2_ hr (b2_ [] (by simp)) .nil Qp (Qa (pv 2) Qf)))
   (Qh (Qen (pv 2) (Qeq (ZM (pv 0) rfl) (pv 1) QbA))))), ?_⟩
  obtain ⟨ws, hw, ht⟩ := hh.sl
  refine ⟨_, rfl, p, A'.dx, _, rfl, hh.ob, Qx (by decide +kernel), _, rfl, p, A', S, j, rfl, hh, by omega, by omega, ?_⟩
  refine ⟨_, rfl, p, A'.dx, _, rfl, hh.ob, Qx (by decide +kernel), _, rfl, p, A', S, v, t, rfl, hh, tv, hn, ?_⟩
  refine ⟨_, rfl, _, rfl, p, C, A'.dx, _, _, rfl, hh.ob, T.cl, T.n_slots, Qco, _, rfl, A'.sl, ws, j, j, rfl, rfl, hw, Qcy (by rw [← QB ht]; exact hj), ?_⟩
  exact hh.outOne (by simp [HA.lists]) hw (hh.setSlot hw ht tv) k
end
end LW
namespace LW
open PySem L2
section
variable {P : Program} {w : World} {K : PySem.W.Frag} {mg : Str → Option Value} {base : Heap} {C : Addr}
theorem Qd8 {n : Nat} {f : Addr} {fd : FuncData} (F : Fun K "_law_whole" "_law_whole" ZO f fd) (T : TX K mg C)  :
  FnOk P w K mg base CX0 (n + 1) f fd ["found"] (Qdc) := by
 refine F.ok QdY (fun vs H Q E h => ?_) (fun cdv A outer s H vs Q E hr h => ?_)
 ·obtain ⟨i, rfl, _⟩ := h
  rfl
 ·obtain ⟨i, rfl, q⟩ := h
  have hu := Q0 hr
  refine ⟨_, (Qh (Qu (QgC (Qv Qay (by rfl) T.g_isi PyProof.Rows.boot_isinstance (Qa (pv 0) (Qa (Qa0 (v := .ty "int") (by rfl) T.g_int PyProof.Rows.boot_int rfl) Qf))) (QhV (pe_not (Qv Qay (by rfl) T.g_isi PyProof.Rows.boot_isinstance (Qa (pv 0) (Qa (Qa0 (v := .ty "bool") (by rfl) T.g_bool PyProof.Rows.boot_bool rfl) Qf)))))))), ?_⟩
  refine ⟨_, rfl, _, "int", _, true, rfl, TyOf.int i, Qaw _ _, _, rfl, Qcm ?_⟩
  exact ⟨_, rfl, _, "bool", _, false, rfl, TyOf.int i, QeY (by decide +kernel) (by decide +kernel) T.s_ib, _, rfl, q⟩
theorem Qed {n : Nat} {f : Addr} {fd : FuncData} (F : Fun K "_law_names" "_law_names" ZT f fd) (T : TX K mg C) (D1_ : DefOk P w K mg base n "_law_whole" ["found"] (Qdc) [[]]) :
  FnOk P w K mg base CX0 (n + 1) f fd ["found", "due"] (Qc5 K) := by
 obtain ⟨f1_, fd1_, n1_, k1_, J1_, c1_⟩ := D1_
 refine F.ok QbR (fun vs H Q E h => ?_) (fun cdv A outer s H vs Q E hr h => ?_)
 ·obtain ⟨a, b, ns, rfl, _⟩ := h
  rfl
 ·obtain ⟨a, b, ns, rfl, ha, hb, hl, q⟩ := h
  have hu := Q0 hr
  refine ⟨_, (Qe (Ze (PW.pt (QeK (Qai (Z1 (Qv Qay (by rfl) T.g_isi PyProof.Rows.boot_isinstance (Qa (pv 0) (Qa (Qa0 (v := .ty "list") (by rfl) T.g_list PyProof.Rows.boot_list rfl) Qf))))) (Qcc (QS QgY (Qv Qs (by rfl) T.g_len PySem.boot_len (Qa (pv 0) Qf)) (Qv Qs (by rfl) T.g_len PySem.boot_len (Qa (pv 1) Qf)) (Zg _))))) (Qh (Qu QaQ)) QA)
   (Qe (ZX PassesOwn.never rfl (Zx (by rfl) T.g_range (Qa (Qv Qs (by rfl) T.g_len PySem.boot_len (Qa (pv 1) Qf)) Qf)) (ZH (i := 2) QbR.nd rfl (Or.inl rfl))
   (Qh (Ze (PW.pt (QeK (Qai (Z1 (Qm J1_ hr (by rfl) n1_ k1_ (c1_ [] (by simp)) .nil Qp (Qa (QX QY (pv 0) (pv 2) (fun _ _ => rfl)) Qf)))) (Qcc (QS QgY (QX QY (pv 0) (pv 2) (fun _ _ => rfl)) (QX QY (pv 1) (pv 2) (fun _ _ => rfl)) (Zg _))))) (Qh (Qu QaQ)) QA)))
   (Qh (Qu QaQ)))), ?_⟩
  refine ⟨_, rfl, _, "list", _, true, rfl, TyOf.lst ha, Qaw _ _, _, rfl, Qbc ?_⟩
  refine ⟨_, rfl, a, _, rfl, .inl (SqL.of ha), _, rfl, b, _, rfl, .inl hb, rfl, _, rfl, Qg5 rfl ?_⟩
  refine ⟨_, rfl, b, _, rfl, .inl hb, _, rfl, by omega, by rw [List.length_map]; omega, ?_⟩
  have e : ((ns.map V.int).length : Int).toNat = ns.length := by simp
  rw [e]
  refine QaJ (n := ns.length) (fun i σ H' => H' = H ∧ ∃ v, σ = [some (.ref a), some (.ref b), v]) ⟨rfl, none, rfl⟩ ?_ ?_
  ·rintro i σ H' hi ⟨rfl, v, rfl⟩
   have hx : (ns.map V.int)[i]? = some (V.int ns[i]) := by rw [List.getElem?_map, List.getElem?_eq_getElem hi]; rfl
   have e0 : (0 : Int) + (i : Int) = (i : Int) := Int.zero_add _
   rw [e0]
   refine ⟨_, rfl, _, rfl, a, _, i, _, rfl, rfl, SqL.of ha, ZI hx, ns[i], rfl, _, rfl, Qbc ?_⟩
   refine ⟨_, rfl, _, rfl, a, _, i, _, rfl, rfl, SqL.of ha, ZI hx, _, rfl, _, rfl, b, _, i, _, rfl, rfl, hb, ZI hx, rfl, _, rfl, Qg5 rfl ?_⟩
   exact ⟨rfl, _, rfl⟩
  ·rintro σ H' ⟨rfl, v, rfl⟩
   exact q
theorem QeO {n : Nat} {f : Addr} {fd : FuncData} (F : Fun K "_law_same" "_law_same" Qaa f fd) (T : TX K mg C) (D1_ : DefOk P w K mg base n "_law_whole" ["found"] (Qdc) [[]]) :
  FnOk P w K mg base CX0 (n + 1) f fd ["found", "due"] (Qi7) := by
 obtain ⟨f1_, fd1_, n1_, k1_, J1_, c1_⟩ := D1_
 refine F.ok QeG (fun vs H Q E h => ?_) (fun cdv A outer s H vs Q E hr h => ?_)
 ·obtain ⟨v, u, t, rfl, _⟩ := h
  rfl
 ·obtain ⟨v, u, t, rfl, tv, tu, q⟩ := h
  have hu := Q0 hr
  refine ⟨_, (Qe (Ze (Qdp (QgD (pv 1))) (Qh (Qu (pe_cmp (QgD (pv 0))))) QA)
   (Qe (Ze (Qai (Z1 (Qv Qay (by rfl) T.g_isi PyProof.Rows.boot_isinstance (Qa (pv 1) (Qa (Qa0 (v := .ty "tuple") (by rfl) T.g_tuple PyProof.Rows.boot_tuple rfl) Qf))))) (Qh (Qu (QgC (Qm J1_ hr (by rfl) n1_ k1_ (c1_ [] (by simp)) .nil Qp (Qa (pv 0) Qf)) (QhV (Qf3 QeM (pv 0) (pv 1) (Zg _)))))) QA)
   (Qe (Ze (PW.pt (QeK (Qai (Z1 (Qv Qay (by rfl) T.g_isi PyProof.Rows.boot_isinstance (Qa (pv 0) (Qa (Qa0 (v := .ty "tuple") (by rfl) T.g_tuple PyProof.Rows.boot_tuple rfl) Qf))))) (Qcc (QS QgY (Qv Qs (by rfl) T.g_len PySem.boot_len (Qa (pv 0) Qf)) Qi (Zg _))))) (Qh (Qu QaQ)) QA)
   (Qh (Qu (QgC (Qv Qay (by rfl) T.g_isi PyProof.Rows.boot_isinstance (Qa (QX Zp (pv 0) Qi (fun _ _ => rfl)) (Qa (Qa0 (v := .ty "str") (by rfl) T.g_str PyProof.Rows.boot_str rfl) Qf))) (QgC (Qm J1_ hr (by rfl) n1_ k1_ (c1_ [] (by simp)) .nil Qp (Qa (QX Zp (pv 0) Qi (fun _ _ => rfl)) Qf)) (QhV (Qf3 (op_eqT hr.units0) (pv 0) (pv 1) (Zg _)))))))))), ?_⟩
  cases t with
  | non =>
   have tv : v = .non := tv
   have tu : u = .non := tu
   subst tv tu
   exact ⟨_, rfl, _, rfl, iteY rfl ⟨_, rfl, q⟩⟩
  | num i =>
   have tv : v = .int i := tv
   have tu : u = .int i := tu
   subst tv tu
   refine ⟨_, rfl, _, rfl, Qjh (by intro z; cases z) ?_⟩
   refine ⟨_, rfl, _, "tuple", _, false, rfl, TyOf.int i, QeY (by decide +kernel) (by decide +kernel) T.s_it, _, rfl, Qcm ?_⟩
   refine ⟨_, rfl, i, rfl, _, rfl, Qcm ⟨_, rfl, _, rfl, rfl, ?_⟩⟩
   rw [decide_eq_true rfl]
   exact q
  | box n =>
   obtain ⟨a, rfl, ha⟩ := tv
   obtain ⟨b, rfl, hb⟩ := tu
   refine ⟨_, rfl, _, rfl, Qjh (by intro z; cases z) ?_⟩
   refine ⟨_, rfl, _, "tuple", _, true, rfl, TyOf.tup hb, Qaw _ _, _, rfl, Qbc ?_⟩
   refine ⟨_, rfl, _, "tuple", _, true, rfl, TyOf.tup ha, Qaw _ _, _, rfl, Qbc ?_⟩
   refine ⟨_, rfl, a, _, rfl, .inr (SqT.of ha), rfl, _, rfl, Qg5 rfl ?_⟩
   refine ⟨_, rfl, a, _, 0, .str "box", rfl, rfl, SqT.of ha, rfl, _, "str", _, true, rfl, TyOf.str _, Qaw _ _, _, rfl, Qcm ?_⟩
   refine ⟨_, rfl, a, _, 1, .int n, rfl, rfl, SqT.of ha, rfl, n, rfl, _, rfl, Qcm ?_⟩
   refine ⟨_, rfl, _, rfl, a, b, _, _, rfl, rfl, SqT.of ha, SqT.of hb, rfl, rfl, ?_⟩
   have e : eqT [V.str "box", V.int n] [V.str "box", V.int n] = true := by simp [eqT, eqV]
   rw [e]
   exact q
theorem Qc0 {n : Nat} {f : Addr} {fd : FuncData} (F : Fun K "_law_cell_at" "_law_cell_at" Zn f fd) (T : TX K mg C)  :
  FnOk P w K mg base CX0 (n + 1) f fd ["script", "k"] (QeD K) := by
 refine F.ok QcT (fun vs H Q E h => ?_) (fun cdv A outer s H vs Q E hr h => ?_)
 ·obtain ⟨a, ns, k, rfl, _⟩ := h
  rfl
 ·obtain ⟨a, ns, k, rfl, hS, h0, q⟩ := h
  have hu := Q0 hr
  refine ⟨_, (Qe (Ze (QS QgZ (pv 1) (Qv Qs (by rfl) T.g_len PySem.boot_len (Qa (pv 0) Qf)) (Zg _)) (Qh (Qu (QX QY (pv 0) (pv 1) (fun _ _ => rfl)))) QA)
   (Qh (Qu Qi))), ?_⟩
  obtain ⟨j, rfl⟩ : ∃ j : Nat, k = (j : Int) := ⟨k.toNat, by omega⟩
  refine ⟨_, rfl, _, rfl, a, _, rfl, .inl hS.sq, _, _, rfl, rfl, _, rfl, ?_⟩
  refine Qg6 (fun hlt => ?_) (fun hlt => ?_)
  ·have hlt : (j : Int) < ((ns.map V.int).length : Int) := of_decide_eq_true hlt
   have hlt : j < ns.length := by rw [List.length_map] at hlt; omega
   refine ⟨_, rfl, _, rfl, a, _, j, V.int ns[j], rfl, rfl, hS.sq, ZI (by rw [List.getElem?_map, List.getElem?_eq_getElem hlt]; rfl), ?_⟩
   have e : cellOf ns (j : Int) = ns[j] := by simp [cellOf, List.getD_eq_getElem?_getD, hlt]
   rw [← e]; exact q
  ·have hlt : ¬ (j : Int) < ((ns.map V.int).length : Int) := fun z => hlt (decide_eq_true z)
   have e : cellOf ns (j : Int) = 0 := by
    rw [List.length_map] at hlt
    simp [cellOf, List.getD_eq_getElem?_getD, List.getElem?_eq_none (show ns.length ≤ j by omega)]
   rw [e] at q
   exact q
theorem QeR {n : Nat} {f : Addr} {fd : FuncData} (F : Fun K "_law_draw" "_law_draw" Qac f fd) (T : TX K mg C) (D1_ : DefOk P w K mg base n "_law_cell_at" ["script", "k"] (QeD K) [[]]) :
  FnOk P w K mg base CX0 (n + 1) f fd ["script", "k"] (QbV K) := by
 obtain ⟨f1_, fd1_, n1_, k1_, J1_, c1_⟩ := D1_
 refine F.ok QeH (fun vs H Q E h => ?_) (fun cdv A outer s H vs Q E hr h => ?_)
 ·obtain ⟨a, ns, k, rfl, _⟩ := h
  rfl
 ·obtain ⟨a, ns, k, rfl, hS, q⟩ := h
  have hu := Q0 hr
  refine ⟨_, (Qh (Qu (QC Q6 (QC QgF (QC Zo (Qm J1_ hr (by rfl) n1_ k1_ (c1_ [] (by simp)) .nil Qp (Qa (pv 0) (Qa (QC Q6 (pv 1) Qi) Qf))) (QC QgF Qi (pv 1))) Qi) Qi))), ?_⟩
  refine ⟨_, rfl, _, rfl, _, _, rfl, rfl, (by show (0 : Int) < 61; decide), a, ns, _, rfl, hS, Int.emod_nonneg _ (by decide), ?_⟩
  refine ⟨_, rfl, _, _, rfl, rfl, .inl ⟨by decide, by decide⟩, _, _, rfl, rfl, _, _, rfl, rfl, .inr ⟨by decide, by decide⟩, _, _, rfl, rfl, (by show (0 : Int) < 2147483647; decide), q⟩
theorem QeQ {n : Nat} {f : Addr} {fd : FuncData} (F : Fun K "_law_many" "_law_many" Qab f fd) (T : TX K mg C) (D1_ : DefOk P w K mg base n "_law_cell_at" ["script", "k"] (QeD K) [[]]) :
  FnOk P w K mg base CX0 (n + 1) f fd ["script"] (QhA K) := by
 obtain ⟨f1_, fd1_, n1_, k1_, J1_, c1_⟩ := D1_
 refine F.ok Qb8 (fun vs H Q E h => ?_) (fun cdv A outer s H vs Q E hr h => ?_)
 ·obtain ⟨a, ns, rfl, _⟩ := h
  rfl
 ·obtain ⟨a, ns, rfl, hS, q⟩ := h
  have hu := Q0 hr
  refine ⟨_, (Qe (QD (i := 1) Qb8.nd rfl (Or.inl rfl) (Qm J1_ hr (by rfl) n1_ k1_ (c1_ [] (by simp)) .nil Qp (Qa (pv 0) (Qa Qi Qf))))
   (Qe (Ze (QS QeM (QC Q6 (pv 1) Qi) Qi (Zg _)) (Qh (Qu (QC Zo Qi (QC Q6 (QC Qbp (pv 1) Qi) Qi)))) QA)
   (Qh (Qu (QC Zo Qi (QC Q6 (pv 1) Qi)))))), ?_⟩
  refine ⟨_, rfl, a, ns, 0, rfl, hS, by decide, ?_⟩
  generalize cellOf ns 0 = c
  refine ⟨_, rfl, _, _, rfl, rfl, (by show (0 : Int) < 7; decide), rfl, _, rfl, Qg6 (fun _ => ?_) (fun _ => ?_)⟩
  ·refine ⟨_, rfl, _, _, rfl, rfl, ⟨by decide, by decide⟩, _, _, rfl, rfl, (by show (0 : Int) < 40; decide), _, _, rfl, rfl, q _ ?_ ?_⟩
   ·have := Int.emod_nonneg (c / 7) (show (40 : Int) ≠ 0 by decide); omega
   ·have := Int.emod_lt_of_pos (c / 7) (show (0 : Int) < 40 by decide); omega
  ·refine ⟨_, rfl, _, _, rfl, rfl, (by show (0 : Int) < 7; decide), _, _, rfl, rfl, q _ ?_ ?_⟩
   ·omega
   ·omega
theorem QdB {n : Nat} {f : Addr} {fd : FuncData} (F : Fun K "_law_number" "_law_number" ZF f fd) (T : TX K mg C) (D1_ : DefOk P w K mg base n "_law_draw" ["script", "k"] (QbV K) [[]])
  (D2_ : DefOk P w K mg base n "_law_cell_at" ["script", "k"] (QeD K) [[]]) :
  FnOk P w K mg base CX0 (n + 1) f fd ["script", "k"] (Qgo K) := by
 obtain ⟨f1_, fd1_, n1_, k1_, J1_, c1_⟩ := D1_
 obtain ⟨f2_, fd2_, n2_, k2_, J2_, c2_⟩ := D2_
 refine F.ok Qbj (fun vs H Q E h => ?_) (fun cdv A outer s H vs Q E hr h => ?_)
 ·obtain ⟨a, ns, k, rfl, _⟩ := h
  rfl
 ·obtain ⟨a, ns, k, rfl, hS, q⟩ := h
  have hu := Q0 hr
  refine ⟨_, (Qe (QD (i := 2) Qbj.nd rfl (Or.inl rfl) (Qm J1_ hr (by rfl) n1_ k1_ (c1_ [] (by simp)) .nil Qp (Qa (pv 0) (Qa (pv 1) Qf))))
   (Qe (Ze (QS QeM (QC Q6 (pv 2) Qi) Qi (Zg _)) (Qh (Qu (QC Q6 (Qm J2_ hr (by rfl) n2_ k2_ (c2_ [] (by simp)) .nil Qp (Qa (pv 0) (Qa (QC Q6 (pv 1) Qi) Qf))) (QC Qje Qi Qi)))) QA)
   (Qe (Ze (QS QeM (QC Q6 (pv 2) Qi) Qi (Zg _)) (Qh (Qu (QC Qjc Qi (QC Q6 (Qm J2_ hr (by rfl) n2_ k2_ (c2_ [] (by simp)) .nil Qp (Qa (pv 0) (Qa (QC Q6 (pv 1) Qi) Qf))) (QC Qje Qi Qi))))) QA)
   (Qh (Qu (QC Qjc (QC Q6 (QC Qbp (pv 2) Qi) Qi) Qi)))))), ?_⟩
  refine ⟨_, rfl, _, rfl, a, ns, k, rfl, hS, ?_⟩
  refine ⟨_, rfl, _, _, rfl, rfl, (by show (0 : Int) < 3; decide), rfl, _, rfl, Qg6 (fun _ => ?_) (fun _ => ?_)⟩
  ·refine ⟨_, rfl, _, rfl, _, _, rfl, rfl, (by show (0 : Int) < 61; decide), a, ns, _, rfl, hS, Int.emod_nonneg _ (by decide), _, _, rfl, rfl, ⟨by decide, by decide, by decide⟩, _, _, rfl, rfl, p40, ?_⟩
   rw [show Int.toNat 40 = 40 from rfl]
   have h1 := Int.emod_nonneg (cellOf ns (k % 61)) (show (10 : Int) ^ 40 ≠ 0 by decide)
   have h2 := Int.emod_lt_of_pos (cellOf ns (k % 61)) p40
   exact q _ (by have := p40; omega) h2
  ·refine ⟨_, rfl, _, _, rfl, rfl, (by show (0 : Int) < 3; decide), rfl, _, rfl, Qg6 (fun _ => ?_) (fun _ => ?_)⟩
   ·refine ⟨_, rfl, _, rfl, _, _, rfl, rfl, (by show (0 : Int) < 61; decide), a, ns, _, rfl, hS, Int.emod_nonneg _ (by decide), _, _, rfl, rfl, ⟨by decide, by decide, by decide⟩, _, _, rfl, rfl, p40, _, _, rfl, rfl, ?_⟩
    rw [show Int.toNat 40 = 40 from rfl]
    have h1 := Int.emod_nonneg (cellOf ns (k % 61)) (show (10 : Int) ^ 40 ≠ 0 by decide)
    have h2 := Int.emod_lt_of_pos (cellOf ns (k % 61)) p40
    exact q _ (by have := p40; omega) (by have := p40; omega)
   ·refine ⟨_, rfl, _, _, rfl, rfl, ⟨by decide, by decide⟩, _, _, rfl, rfl, (by show (0 : Int) < 9; decide), _, _, rfl, rfl, q _ ?_ ?_⟩
    ·have : (4 : Int) < 10 ^ 40 := by decide
     omega
    ·have : (9 : Int) < 10 ^ 40 := by decide
     omega
theorem Qea {n : Nat} {f : Addr} {fd : FuncData} (F : Fun K "_law_thing" "_law_thing" ZQ f fd) (T : TX K mg C) (D1_ : DefOk P w K mg base n "_law_draw" ["script", "k"] (QbV K) [[]])
  (D2_ : DefOk P w K mg base n "_law_number" ["script", "k"] (Qgo K) [[]]) :
  FnOk P w K mg base CX0 (n + 1) f fd ["script", "k", "many"] (Qhv K) := by
 obtain ⟨f1_, fd1_, n1_, k1_, J1_, c1_⟩ := D1_
 obtain ⟨f2_, fd2_, n2_, k2_, J2_, c2_⟩ := D2_
 refine F.ok QbQ (fun vs H Q E h => ?_) (fun cdv A outer s H vs Q E hr h => ?_)
 ·obtain ⟨a, ns, k, many, rfl, _⟩ := h
  rfl
 ·obtain ⟨a, ns, k, many, rfl, hS, hm, q⟩ := h
  have hu := Q0 hr
  refine ⟨_, (Qe (QD (i := 3) QbQ.nd rfl (Or.inl rfl) (Qm J1_ hr (by rfl) n1_ k1_ (c1_ [] (by simp)) .nil Qp (Qa (pv 0) (Qa (pv 1) Qf))))
   (Qe (Ze (QS QeM (QC Q6 (pv 3) Qi) Qi (Zg _)) (Qh (Qu Qfr)) QA)
   (Qe (Ze (QS QeM (QC Q6 (pv 3) Qi) Qi (Zg _)) (Qh (Qu (Qm J2_ hr (by rfl) n2_ k2_ (c2_ [] (by simp)) .nil Qp (Qa (pv 0) (Qa (QC Zo (pv 1) Qi) Qf))))) QA)
   (Qh (Qu (QbS (Qa Qcf (Qa (QC Zo Qi (QC Q6 (QC Qbp (pv 3) Qi) (pv 2))) Qf)))))))), ?_⟩
  refine ⟨_, rfl, _, rfl, a, ns, k, rfl, hS, ?_⟩
  refine ⟨_, rfl, _, _, rfl, rfl, (by show (0 : Int) < 5; decide), rfl, _, rfl, Qg6 (fun _ => ?_) (fun _ => ?_)⟩
  ·exact q .non .non H (Same.refl H) rfl trivial
  ·refine ⟨_, rfl, _, _, rfl, rfl, (by show (0 : Int) < 5; decide), rfl, _, rfl, Qg6 (fun _ => ?_) (fun _ => ?_)⟩
   ·refine ⟨_, rfl, _, rfl, _, _, rfl, rfl, a, ns, k + 1, rfl, hS, fun i h1 h2 => ?_⟩
    exact q (.num i) (.int i) H (Same.refl H) rfl ⟨h1, h2⟩
   ·refine ⟨_, rfl, _, _, rfl, rfl, ⟨by decide, by decide⟩, _, rfl, _, _, rfl, rfl, (by show (0 : Int) < many; omega), _, _, rfl, rfl, by show 2 ≤ sizeLine; decide, fun l hl => ?_⟩
    have h1 := Int.emod_nonneg (drw ns k / 5) (show many ≠ 0 by omega)
    have h2 := Int.emod_lt_of_pos (drw ns k / 5) (show (0 : Int) < many by omega)
    exact q (.box (1 + drw ns k / 5 % many)) (.ref l) _ (Same.new hl) ⟨l, rfl, Qb⟩ ⟨by omega, by omega⟩
theorem Qeb {n : Nat} {f : Addr} {fd : FuncData} (F : Fun K "_law_slots" "_law_slots" ZR f fd) (T : TX K mg C) (D1_ : DefOk P w K mg base n "_law_draw" ["script", "k"] (QbV K) [[]]) :
  FnOk P w K mg base CX0 (n + 1) f fd ["script", "count", "many"] (Qhw K) := by
 obtain ⟨f1_, fd1_, n1_, k1_, J1_, c1_⟩ := D1_
 refine F.ok Zc (fun vs H Q E h => ?_) (fun cdv A outer s H vs Q E hr h => ?_)
 ·obtain ⟨a, ns, count, many, rfl, _⟩ := h
  rfl
 ·obtain ⟨a, ns, count, many, rfl, hS, hc0, hc1, hm, q⟩ := h
  have hu := Q0 hr
  refine ⟨_, (Qe (QD (i := 3) Zc.nd rfl (Or.inl rfl) (ZY Qf))
   (Qe (ZX PassesOwn.never rfl (Zx (by rfl) T.g_range (Qa (pv 1) Qf)) (ZH (i := 4) Zc.nd rfl (Or.inl rfl))
   (Qe (QD (i := 5) Zc.nd rfl (Or.inl rfl) (Qm J1_ hr (by rfl) n1_ k1_ (c1_ [] (by simp)) .nil Qp (Qa (pv 0) (Qa (QC Zo Qi (pv 4)) Qf))))
   (Qe (QD (i := 6) Zc.nd rfl (Or.inl rfl) Qfr)
   (Qe (Ze (QS QeM (QC Q6 (pv 5) Qi) Qi (Zg _)) (Qh (QD (i := 6) Zc.nd rfl (Or.inl rfl) (QbS (Qa Qcf (Qa (QC Zo Qi (QC Q6 (QC Qbp (pv 5) Qi) (pv 2))) Qf))))) QA)
   (Qe (Ze (QS QeM (QC Q6 (pv 5) Qi) Qi (Zg _)) (Qh (QD (i := 6) Zc.nd rfl (Or.inl rfl) (QC Q6 (QC Qbp (pv 5) Qi) Qi))) QA)
   (Qh (QH (Qfs PySem.F.plainAttrs_list PySem.F.slot_list_append PySem.F.type_list_append QaH (pv 3) (Qa (pv 6) Qf)))))))))
   (Qh (Qu (pv 3))))), ?_⟩
  refine ⟨Nat.zero_le _, fun l hl => ?_⟩
  refine ⟨_, rfl, count, rfl, by omega, by omega, QaJ (n := count.toNat) (fun i σ H' => ∃ v_k v_cell v_thing, σ = [some (.ref a), some (.int count), some (.int many), some (.ref l), v_k, v_cell, v_thing] ∧ Same H H' ∧
   ∃ ts, ThL H' ts l ∧ ts.length = i ∧ ∀ t ∈ ts, TOk many t) ?_ ?_ ?_⟩
  ·exact ⟨_, _, _, rfl, Same.new hl, [], ⟨[], Qb, .nil⟩, rfl, by simp⟩
  ·rintro i σ H1 hi ⟨v1, v2, v3, rfl, s1, ts, ⟨vs, hv, ht⟩, hlen, hts⟩
   have hS1 := hS.keep (Frz.of_same s1)
   refine ⟨_, rfl, _, rfl, _, _, rfl, rfl, a, ns, _, rfl, hS1, ?_⟩
   generalize drw ns (700 + (0 + (i : Int))) = c
   have hvl : vs.length = i := by rw [← hlen]; exact (QB ht).symm
   have fin : ∀ (t : LW.T) (v : V) (H2 : Hp), Same H1 H2 → isT H2 t v → TOk many t → H2 l = some (.lst vs) ∧ vs.length < sizeLine ∧ (Same H (upd H2 l (.lst (vs ++ [v]))) ∧ ∃ ts, ThL (upd H2 l (.lst (vs ++ [v]))) ts l ∧ ts.length = i + 1 ∧ ∀ t ∈ ts, TOk many t) := fun t v H2 s2 tv ok => by
    have h2 := s2 _ _ hv
    have tu : Tups H2 (upd H2 l (.lst (vs ++ [v]))) := Tups.upd h2 (by intro xs z; cases z)
    refine ⟨h2, QP (by omega), fun b o e => ?_, ts ++ [t], ⟨_, Qb, Ths.keep tu (Qaj (Ths.keep (Tups.of_same s2) ht) (.cons tv .nil))⟩, by simp [hlen], fun x hx => ?_⟩
    ·rw [Qg (Qd e hl)]; exact s2 _ _ (s1 _ _ e)
    ·rcases List.mem_append.mp hx with z | z
     ·exact hts x z
     ·rw [List.mem_singleton.mp z]; exact ok
   refine ⟨_, rfl, _, _, rfl, rfl, (by show (0 : Int) < 3; decide), rfl, _, rfl, Qg6 (fun _ => ?_) (fun _ => ?_)⟩
   ·refine ⟨_, rfl, _, _, rfl, rfl, ⟨by decide, by decide⟩, _, rfl, _, _, rfl, rfl, (by show (0 : Int) < many; omega), _, _, rfl, rfl, by show 2 ≤ sizeLine; decide, fun b hb => ?_⟩
    have h1 := Int.emod_nonneg (c / 3) (show many ≠ 0 by omega)
    have h2 := Int.emod_lt_of_pos (c / 3) (show (0 : Int) < many by omega)
    refine ⟨_, rfl, _, _, rfl, rfl, (by show (0 : Int) < 7; decide), rfl, _, rfl, Qg6 (fun _ => ?_) (fun _ => ?_)⟩
    ·refine ⟨_, rfl, _, _, rfl, rfl, ⟨by decide, by decide⟩, _, _, rfl, rfl, (by show (0 : Int) < 100; decide), ?_⟩
     obtain ⟨f1, f2, f3, f4⟩ := fin (.num (c / 7 % 100)) (.int (c / 7 % 100)) _ (Same.new hb) rfl (Qjf _ (by omega) (by omega))
     exact ⟨_, rfl, .inl ⟨rfl, _, SqL.of f1⟩, _, rfl, l, _, _, rfl, rfl, f1, f2, ⟨_, _, _, rfl, f3, f4⟩⟩
    ·obtain ⟨f1, f2, f3, f4⟩ := fin (.box (1 + c / 3 % many)) (.ref b) _ (Same.new hb) ⟨b, rfl, Qb⟩ ⟨by omega, by omega⟩
     exact ⟨_, rfl, .inl ⟨rfl, _, SqL.of f1⟩, _, rfl, l, _, _, rfl, rfl, f1, f2, ⟨_, _, _, rfl, f3, f4⟩⟩
   ·refine ⟨_, rfl, _, _, rfl, rfl, (by show (0 : Int) < 7; decide), rfl, _, rfl, Qg6 (fun _ => ?_) (fun _ => ?_)⟩
    ·refine ⟨_, rfl, _, _, rfl, rfl, ⟨by decide, by decide⟩, _, _, rfl, rfl, (by show (0 : Int) < 100; decide), ?_⟩
     obtain ⟨f1, f2, f3, f4⟩ := fin (.num (c / 7 % 100)) (.int (c / 7 % 100)) _ (Same.refl _) rfl (Qjf _ (by omega) (by omega))
     exact ⟨_, rfl, .inl ⟨rfl, _, SqL.of f1⟩, _, rfl, l, _, _, rfl, rfl, f1, f2, ⟨_, _, _, rfl, f3, f4⟩⟩
    ·obtain ⟨f1, f2, f3, f4⟩ := fin .non .non _ (Same.refl _) rfl trivial
     exact ⟨_, rfl, .inl ⟨rfl, _, SqL.of f1⟩, _, rfl, l, _, _, rfl, rfl, f1, f2, ⟨_, _, _, rfl, f3, f4⟩⟩
  ·rintro σ H1 ⟨v1, v2, v3, rfl, s1, ts, ht, hlen, hts⟩
   exact ⟨_, rfl, q l ts H1 s1 hl ht (by omega) hts⟩
theorem Qc2 : QW (Qc Za) ["script", "many", "kinds", "rows", "name", "cell", "size"] (Q5 ((Qbu (QeA (Qe3 (QeA (Qj Za) 2)) 3)))) "at" ["script", "many", "name"] [0, 1, 4] :=
 ⟨by rfl, by decide +kernel, by decide +kernel, by decide +kernel, by rfl, by decide +kernel, by rfl, by decide +kernel⟩
theorem Qef {n : Nat} {f : Addr} {fd : FuncData} (F : Fun K "_law_graph" "_law_graph" Za f fd) (T : TX K mg C) (D1_ : DefOk P w K mg base n "_law_draw" ["script", "k"] (QbV K) [[]])
  (D2_ : DefOk P w K mg base n "_law_thing" ["script", "k", "many"] (Qhv K) [[]]) :
  FnOk P w K mg base CX0 (n + 1) f fd ["script", "many"] (QhD K) := by
 obtain ⟨f1_, fd1_, n1_, k1_, J1_, c1_⟩ := D1_
 obtain ⟨f2_, fd2_, n2_, k2_, J2_, c2_⟩ := D2_
 refine F.ok Zz (fun vs H Q E h => ?_) (fun cdv A outer s H vs Q E hr h => ?_)
 ·obtain ⟨a, ns, many, rfl, _⟩ := h
  rfl
 ·obtain ⟨a, ns, many, rfl, hS, hm1, hm2, q⟩ := h
  have hu := Q0 hr
  refine ⟨_, (Qe (QD (i := 2) Zz.nd rfl (Or.inl rfl) QbE)
   (Qe (QD (i := 3) Zz.nd rfl (Or.inl rfl) QbE)
   (Qe (ZX PassesOwn.never rfl (Qfp (by rfl) T.g_range (Qa Qi (Qa (QC Zo (pv 1) Qi) Qf))) (ZH (i := 4) Zz.nd rfl (Or.inr rfl))
   (Qe (QD (i := 5) Zz.nd rfl (Or.inl rfl) (Qm J1_ hr (by rfl) n1_ k1_ (c1_ [] (by simp)) .nil Qp (Qa (pv 0) (Qa (QC QgF Qi (pv 4)) Qf))))
   (Qe (QaG hu (pv 2) (pv 4) (QX QY (ZY (Qa Qcf (Qa Qcf (Qa Qcf (Qa Qcf Qf))))) (QC Q6 (pv 5) Qi) (fun _ _ => rfl)) rfl)
   (Qe (QD (i := 6) Zz.nd rfl (Or.inl rfl) (QX QY (ZY (Qa (QC Q6 (QC Qbp (pv 5) Qi) Qi) (Qa Qi (Qa Qi (Qa (QC Q6 (QC Qbp (pv 5) Qi) Qi) Qf))))) (QC Q6 (pv 5) Qi) (fun _ _ => rfl)))
   (Qh (QaG hu (pv 3) (pv 4) (Qas Qc2 rfl (Zx (by rfl) T.g_range (Qa (pv 6) Qf)) (fun _ _ _ _ => ZW) (fun _ _ _ _ => (Qm J2_ hr (by rfl) n2_ k2_ (c2_ [] (by simp)) .nil Qp (Qa (pv 1) (Qa (QC Zo (QC Zo (QC QgF Qi (pv 3)) Qi) (pv 0)) (Qa (pv 2) Qf)))))) rfl))))))
   (Qh (Qu (QbS (Qa (pv 2) (Qa (pv 3) Qf)))))))), ?_⟩
  refine fun ak hak => ?_
  refine fun ar har => ?_
  have hra : ar ≠ ak := fun e => by rw [e, Qb] at har; cases har
  have har0 : H ar = none := (Same.new hak).free har
  refine ⟨_, rfl, _, _, rfl, rfl, 1, many + 1, rfl, ⟨by decide, by decide, by omega, by omega⟩, ?_⟩
  have em : (many + 1 - 1).toNat = many.toNat := by omega
  rw [em]
  refine QaJ (lo := 1) (n := many.toNat) (fun i σ H' => ∃ v_name v_cell v_size, σ = [some (.ref a), some (.int many), some (.ref ak), some (.ref ar), v_name, v_cell, v_size] ∧ Same H H' ∧
   ∃ bs, RecNew H H' ak ar bs ∧ bs.map (·.name) = Qy 1 i ∧ ∀ b ∈ bs, BOk many b) ?_ ?_ ?_
  ·refine ⟨_, _, _, rfl, (Same.new hak).trans (Same.new har), [], ⟨[], Zt Qb har, Qb, .nil, by simp [hra.symm], ?_⟩, rfl, by simp⟩
   intro b hb
   have hb : b = ak ∨ b = ar := by simpa using hb
   rcases hb with rfl | rfl
   ·exact hak
   ·exact har0
  ·rintro i σ H1 hi ⟨v1, v2, v3, rfl, s1, bs, hR, hnm, hok⟩
   have hS1 := hS.keep (Frz.of_same s1)
   refine ⟨_, rfl, _, rfl, _, _, rfl, rfl, .inl ⟨by decide, by decide⟩, a, ns, _, rfl, hS1, ?_⟩
   generalize drw ns (10 * (1 + (i : Int))) = c
   obtain ⟨kd, sz, hk1, hk2, hkd, hz0, hz8, hsz⟩ := menu4 c
   have hR0 := hR
   obtain ⟨fl, e1, e2, pf, nd, fr⟩ := hR
   have hl := QB pf
   have hbl : bs.length = i := by have := congrArg List.length hnm; rw [Qo] at this; simpa using this
   have hout : (1 + (i : Int)) ∉ bs.map (·.name) := by rw [hnm, Zq]; omega
   refine ⟨by show 4 ≤ sizeLine; decide, fun l1 hl1 => ⟨_, rfl, _, _, rfl, rfl, (by show (0 : Int) < 4; decide), l1, _, _, _, rfl, rfl, SqL.of Qb, hk1, ?_⟩⟩
   refine ⟨_, rfl, _, rfl, ak, _, rfl, DPut.k (k := Sum.inl (1 + (i : Int))) (Zt e1 hl1) (by simp only [Qr, List.length_map]; exact QP (by omega)), ?_⟩
   have s2 : Same H1 (upd H1 l1 (.lst [V.str "plain", V.str "weak", V.str "pair", V.str "plain"])) := Same.new hl1
   generalize eH2 : upd (upd H1 l1 (.lst [V.str "plain", V.str "weak", V.str "pair", V.str "plain"])) ak (.dK (QbZ (Qr bs) (Sum.inl (1 + (i : Int))) (.str kd))) = H2
   have sH2 : Same H H2 := fun b o e => by
    rw [← eH2, Qg (Qd e hak)]; exact s2 _ _ (s1 _ _ e)
   refine ⟨_, rfl, _, _, rfl, rfl, ⟨by decide, by decide⟩, _, _, rfl, rfl, (by show (0 : Int) < 9; decide), _, rfl, _, _, rfl, rfl, ⟨by decide, by decide⟩, _, _, rfl, rfl, (by show (0 : Int) < 3; decide), by show 4 ≤ sizeLine; decide, fun l2 hl2 => ?_⟩
   refine ⟨_, rfl, _, _, rfl, rfl, (by show (0 : Int) < 4; decide), l2, _, _, _, rfl, rfl, SqL.of Qb, hk2, ?_⟩
   have s3 : Same H2 (upd H2 l2 (.lst [V.int (c / 4 % 9), V.int 1, V.int 2, V.int (c / 4 % 3)])) := Same.new hl2
   generalize upd H2 l2 (.lst [V.int (c / 4 % 9), V.int 1, V.int 2, V.int (c / 4 % 3)]) = H3 at s3 ⊢
   refine ⟨_, rfl, sz, rfl, by omega, by omega, ?_⟩
   refine QaB (lo := 0) (n := sz.toNat) (fun j ys H' => Same H3 H' ∧ ∃ ts, Ths H' ts ys ∧ ts.length = j ∧ ∀ t ∈ ts, TOk many t) ⟨Same.refl _, [], .nil, rfl, by simp⟩ ?_ (QaI (by omega)) ?_ ?_
   ·rintro j ys H' ⟨_, ts, ht, hj, _⟩
    rw [← QB ht, hj]; exact Nat.le_refl _
   ·rintro j ys H' hj ⟨s4, ts, ht, htl, hts⟩
    dsimp only [Qb3]
    have hS4 := (hS.keep (Frz.of_same sH2)).keep (Frz.of_same (s3.trans s4))
    refine Qcm ⟨_, rfl, _, rfl, _, _, rfl, rfl, .inl ⟨by decide, by decide⟩, _, _, rfl, rfl, _, rfl, _, _, rfl, rfl, _, rfl, a, ns, _, many, rfl, hS4, hm1, fun t v H5 s5 tv ok => ?_⟩
    refine ⟨s4.trans s5, ts ++ [t], Qaj (Ths.keep (Tups.of_same s5) ht) (.cons tv .nil), by simp [htl], fun x hx => ?_⟩
    rcases List.mem_append.mp hx with z | z
    ·exact hts x z
    ·rw [List.mem_singleton.mp z]; exact ok
   ·rintro ys H4 ⟨s4, ts, ht, htl, hts⟩ r hr4
    have r2 : H2 ar = some (.dK (Ql bs fl)) := by rw [← eH2, Qg hra]; exact s2 _ _ e2
    have s34 : Same H2 (upd H4 r (.lst ys)) := (s3.trans s4).trans (Same.new hr4)
    refine ⟨_, rfl, _, rfl, ar, _, rfl, DPut.k (k := Sum.inl (1 + (i : Int))) (s34 _ _ r2) (by rw [Ql, List.length_map, List.length_zip]; exact QP (by omega)), ?_⟩
    refine ⟨_, _, _, rfl, fun b o e => ?_, bs ++ [⟨1 + (i : Int), kd, ts⟩], ?_, ?_, ?_⟩
    ·rw [Qg (Qd e har0)]; exact s34 _ _ (sH2 _ _ e)
    ·refine hR0.snoc (b := ⟨1 + (i : Int), kd, ts⟩) (a := r) s2 hout eH2.symm s34 ⟨ys, Qb, Ths.keep (Tups.new hr4) ht⟩ ((s3.trans s4).free hr4) sH2 fun fl' h => ?_
     rw [HO.dK.inj (Option.some.inj (h.symm.trans (s34 _ _ r2)))]
    ·rw [List.map_append, hnm, Qan]; rfl
    ·intro b hb
     rcases List.mem_append.mp hb with z | z
     ·exact hok b z
     ·rw [List.mem_singleton.mp z]
      exact ⟨hkd, by show Qap kd (ts.length : Int) = (ts.length : Int); rw [show (ts.length : Int) = sz by omega]; exact hsz, by show ts.length ≤ 8; omega, hts⟩
  ·rintro σ H1 ⟨v1, v2, v3, rfl, s1, bs, hR, hnm, hok⟩
   refine ⟨_, rfl, _, rfl, by show 2 ≤ sizeLine; decide, fun m hm => ?_⟩
   exact q m ak ar bs _ (s1.trans (Same.new hm)) Qb (hR.same (Same.new hm)) hnm hok
theorem Qee {n : Nat} {f : Addr} {fd : FuncData} {t_mk1 t_mk2 t_sl : Tok} (F : Fun K "_law_house" "_law_house" ZU f fd) (T : TX K mg C) (D1_ : MakeOk P w K mg base C n ["self", "room", "slots"] (Qi8 C) [[], [.int 4 t_sl]])
  (M2_ : MethOk P w K mg base C n "make" ["self", "kind", "size", "slot"] (QhB C) [[], [.int 0 t_mk1, .int 0 t_mk2], [.int 0 t_mk2]])
  (M3_ : MethOk P w K mg base C n "put" ["self", "name", "at", "thing"] (Qjt C) [[]])
  (M4_ : MethOk P w K mg base C n "hold" ["self", "slot", "thing"] (Qi9 C) [[]]) :
  FnOk P w K mg base CX0 (n + 1) f fd ["kinds", "rows", "slots", "extra"] (QhC C) := by
 obtain ⟨fI1_, fdI1_, jI1_, hjI1_, MK1_, GI1_, bI1_⟩ := D1_
 obtain ⟨f2_, fd2_, m2_, G2_, b2_⟩ := M2_
 obtain ⟨f3_, fd3_, m3_, G3_, b3_⟩ := M3_
 obtain ⟨f4_, fd4_, m4_, G4_, b4_⟩ := M4_
 refine F.ok Zy (fun vs H Q E h => ?_) (fun cdv A outer s H vs Q E hr h => ?_)
 ·obtain ⟨ak, ar, as, fl, bs, ts, extra, rfl, _⟩ := h
  rfl
 ·obtain ⟨ak, ar, as, fl, bs, ts, extra, rfl, hk, hr', pf, hs, hnm, h64, hok, ht1, ht2, hts, hx, q⟩ := h
  have hu := Q0 hr
  refine ⟨_, (Qe (QD (i := 4) Zy.nd rfl (Or.inl rfl) (QjD MK1_ GI1_ (hr.mono hjI1_) (by rfl) T.g_house (bI1_ [] (by simp)) .nil Qp (Qa (QC Zo (Qv QfK (by rfl) T.g_len PySem.boot_len (Qa (pv 0) Qf)) (pv 3)) (Qa (Qv Qs (by rfl) T.g_len PySem.boot_len (Qa (pv 2) Qf)) Qf))))
   (Qe (ZX PassesOwn.never rfl (Z5 (Qv (QcL hr.hd) (by rfl) T.g_sorted PyProof.Rows.boot_sorted (Qa (pv 0) Qf))) (ZH (i := 5) Zy.nd rfl (Or.inl rfl))
   (Qh (QH (Qz (pv 4) T.cl m2_ G2_ hr (b2_ [] (by simp)) .nil Qp (Qa (Zu hu (pv 0) (pv 5) (fun _ _ => rfl)) (Qa (Qv Qs (by rfl) T.g_len PySem.boot_len (Qa (Zu hu (pv 1) (pv 5) (fun _ _ => rfl)) Qf)) (Qa Qi Qf)))))))
   (Qe (ZX PassesOwn.never rfl (Z5 (Qv (QcL hr.hd) (by rfl) T.g_sorted PyProof.Rows.boot_sorted (Qa (pv 1) Qf))) (ZH (i := 5) Zy.nd rfl (Or.inl rfl))
   (Qh (ZX PassesOwn.never rfl (Qdt (by rfl) T.g_enumerate (Qa (Zu hu (pv 1) (pv 5) (fun _ _ => rfl)) Qf)) (Qb0 rfl Zy.nd (i := 6) (j := 7) rfl rfl (Or.inl rfl) (Or.inl rfl))
   (Qh (QH (Qz (pv 4) T.cl m3_ G3_ hr (b3_ [] (by simp)) .nil Qp (Qa (pv 5) (Qa (pv 6) (Qa (pv 7) Qf)))))))))
   (Qe (ZX PassesOwn.never rfl (Qdt (by rfl) T.g_enumerate (Qa (pv 2) Qf)) (Qb0 rfl Zy.nd (i := 8) (j := 7) rfl rfl (Or.inl rfl) (Or.inl rfl))
   (Qh (QH (Qz (pv 4) T.cl m4_ G4_ hr (b4_ [] (by simp)) .nil Qp (Qa (pv 8) (Qa (pv 7) Qf))))))
   (Qh (Qu (pv 4))))))), ?_⟩
  obtain ⟨ws, hw, htw⟩ := hs
  have hkl : (Qr bs).length = bs.length := by simp [Qr]
  have hnd : (bs.map (·.name)).Nodup := by rw [hnm]; exact (Qao _ _).imp fun z => Int.ne_of_lt z
  have hfl := QB pf
  refine ⟨_, rfl, ak, _, rfl, hk, _, rfl, _, _, rfl, rfl, _, rfl, as, _, rfl, .inl (SqL.of hw), fun x dx nx ndx nex => ?_⟩
  rw [hkl, ← QB htw]
  refine ⟨x, dx, _, _, rfl, Qb, by omega, by omega, fun A1 H1 hh1 fr1 tu1 gr1 => ⟨rfl, ?_⟩⟩
  have s1 : Same H H1 := fun b o e => fr1 b o (QdI (Zt e ndx) (Qd e nx)) (by simpa using Qd e nx)
  have f1 : ∀ b ∈ A1.foot x, H b = none := fun b hb => by
   rcases gr1 b hb with z | z
   ·rw [List.mem_singleton.mp z]; exact nx
   ·exact Qau (Qau z)
  have rk : ∀ {H' : Hp}, Same H H' → H' ak = some (.dK (Qr bs)) := fun s => s _ _ hk
  have rr : ∀ {H' : Hp}, Same H H' → H' ar = some (.dK (Ql bs fl)) := fun s => s _ _ hr'
  refine ⟨_, rfl, ak, _, Qy 1 bs.length, rfl, rk s1, by rw [Zv, hnm], by rw [Qo]; exact h64, fun l ns' hl hp hs => ?_⟩
  rw [perm_asc hp hs (Qao _ _)]
  refine ⟨l, rfl, ⟨_, SqL.of Qb⟩, ?_⟩
  have s2 := s1.trans (Same.new (o := .lst ((Qy 1 bs.length).map V.int)) hl)
  have hl0 : l ∉ A1.foot x := hh1.out hl
  have hh2 := hh1.new (o := .lst ((Qy 1 bs.length).map V.int)) hl
  refine Qax (K := K) (xs := (Qy 1 bs.length).map V.int) (fun i σ H' => ∃ v_name v_at v_thing v_slot A S, σ = [some (.ref ak), some (.ref ar), some (.ref as), some (.int extra), some (.ref x), v_name, v_at, v_thing, v_slot] ∧ Same H H' ∧ (∀ b ∈ HA.foot A x, H b = none) ∧
   H' l = some (.lst ((Qy 1 bs.length).map V.int)) ∧ l ∉ HA.foot A x ∧ HouseAt C H' x A ⟨bs.length + extra, S, i, (bs.take i).map Box.blank, e4, e4⟩ ∧ S.length = ts.length) ?_ ?_ ?_ ?_
  ·exact ⟨_, _, _, _, A1, List.replicate (ts.length : Int).toNat .non, rfl, s2, f1, Qb, hl0, hh2, by simp⟩
  ·rintro i σ H' _ ⟨_, _, _, _, A, S, rfl, s, f, h, n, hh, hS⟩
   exact SqL.of h
  ·rintro i y σ H' hy ⟨v1, v2, v3, v4, A, S, rfl, s, f, h, n, hh, hS⟩
   obtain ⟨hi, rfl⟩ := QfC hy
   obtain ⟨b, hb⟩ : ∃ b, bs[i]? = some b := ⟨bs[i], List.getElem?_eq_getElem hi⟩
   obtain ⟨hbn, _⟩ := Qf6 hnm hb
   have hbo := hok b (List.mem_of_getElem? hb)
   obtain ⟨a, ha, vs, hv, htv⟩ := ZK pf hb
   rw [← hbn]
   have hlen := QB htv
   have hle := hbo.le
   refine ⟨_, rfl, x, A.dx, _, rfl, hh.ob, Qx (by decide +kernel), _, rfl, _, rfl, ak, .str b.kind, rfl, ?_, ?_⟩
   ·rw [← kindAt hnd hb]; exact DGet.k (k := Sum.inl b.name) (rk s)
   refine ⟨_, rfl, _, rfl, ar, .ref a, rfl, ?_, a, vs, rfl, .inl (SqL.of (s _ _ hv)), ?_⟩
   ·rw [← rowAt hfl hnd hb ha]; exact DGet.k (k := Sum.inl b.name) (rr s)
   rw [← hlen]
   have hsz := hbo.sz
   refine ⟨x, A, _, b.kind, b.row.length, 0, rfl, hh, by rw [hsz]; omega, by rw [hsz]; omega, by show ((bs.take i).map Box.blank).length ≤ 1000; rw [List.length_map, List.length_take]; omega, by show (((bs.take i).map Box.blank).length : Int) < bs.length + extra; rw [List.length_map, List.length_take]; omega, by show 0 < S.length; omega, fun A2 H2 hh2 fr2 tu2 gr2 => ?_⟩
   obtain ⟨g1, g2, g3, g4⟩ := Qdb (C := C) (S := HS.empty 0 0) s f h n fr2 gr2
   refine ⟨_, _, _, _, A2, S.set 0 (.box ((i : Int) + 1)), rfl, g1, g2, g3, g4, ?_, ?_⟩
   ·rw [hsz] at hh2
    have e : (HS.made ⟨bs.length + extra, S, i, (bs.take i).map Box.blank, e4, e4⟩ b.kind (b.row.length : Int).toNat 0) = ⟨bs.length + extra, S.set 0 (.box ((i : Int) + 1)), ((i + 1 : Nat) : Int), (bs.take (i + 1)).map Box.blank, e4, e4⟩ := by
     rw [Qhd bs i b hb]
     unfold HS.made HS.built
     simp only [Int.toNat_natCast, HS.mk.injEq, true_and]
     refine ⟨by omega, ?_, trivial⟩
     congr 1
     unfold Box.blank
     rw [hbn]
     congr 1
     congr 1
     omega
    rw [e] at hh2
    exact hh2
   ·simp [hS]
  ·rintro σ H3 ⟨v1, v2, v3, v4, A, S, rfl, s, f, h, n, hh, hS⟩
   have en : (((Qy 1 bs.length).map V.int).length) = bs.length := by rw [List.length_map, Qo]
   rw [en, List.take_length] at hh
   refine ⟨_, rfl, ar, _, Qy 1 bs.length, rfl, rr s, by rw [Qae hfl, hnm], by rw [Qo]; exact h64, fun l2 ns2 hl2 hp2 hs2 => ?_⟩
   rw [perm_asc hp2 hs2 (Qao _ _)]
   refine ⟨l2, rfl, ⟨_, SqL.of Qb⟩, ?_⟩
   have s4 := s.trans (Same.new (o := .lst ((Qy 1 bs.length).map V.int)) hl2)
   have hl3 : l2 ∉ A.foot x := hh.out hl2
   have hh4 := hh.new (o := .lst ((Qy 1 bs.length).map V.int)) hl2
   have h4 : (upd H3 l2 (.lst ((Qy 1 bs.length).map V.int))) l2 = some (.lst ((Qy 1 bs.length).map V.int)) := Qb
   generalize upd H3 l2 (.lst ((Qy 1 bs.length).map V.int)) = H4 at s4 hh4 h4 ⊢
   refine Qax (K := K) (xs := (Qy 1 bs.length).map V.int) (fun i σ H' => ∃ v_name v_at v_thing v_slot A S, σ = [some (.ref ak), some (.ref ar), some (.ref as), some (.int extra), some (.ref x), v_name, v_at, v_thing, v_slot] ∧ Same H H' ∧ (∀ b ∈ HA.foot A x, H b = none) ∧
    H' l2 = some (.lst ((Qy 1 bs.length).map V.int)) ∧ l2 ∉ HA.foot A x ∧ HouseAt C H' x A ⟨bs.length + extra, S, bs.length, Z0 bs i 0, e4, e4⟩ ∧ S.length = ts.length) ?_ ?_ ?_ ?_
   ·exact ⟨_, _, _, _, A, S, rfl, s4, f, h4, hl3, by rw [QhP]; exact hh4, hS⟩
   ·rintro i σ H' _ ⟨_, _, _, _, A, S, rfl, s, f, h, n, hh, hS⟩
    exact SqL.of h
   ·clear hS hh hh4 f n s s4 h4 h hl3 v1 v2 v3 v4
    rintro i y σ H' hy ⟨v1, v2, v3, v4, A, S, rfl, s, f, h, n, hh, hS⟩
    obtain ⟨hi, rfl⟩ := QfC hy
    obtain ⟨b, hb⟩ : ∃ b, bs[i]? = some b := ⟨bs[i], List.getElem?_eq_getElem hi⟩
    obtain ⟨hbn, _⟩ := Qf6 hnm hb
    have hbo := hok b (List.mem_of_getElem? hb)
    obtain ⟨a, ha, vs, hv, htv⟩ := ZK pf hb
    rw [← hbn]
    have hlen := QB htv
    refine ⟨_, rfl, _, rfl, ar, .ref a, rfl, ?_, a, vs, rfl, s _ _ hv, ?_⟩
    ·rw [← rowAt hfl hnd hb ha]; exact DGet.k (k := Sum.inl b.name) (rr s)
    refine Qc9 (xs := vs) (fun j σ H' => ∃ v_at v_thing v_slot A S, σ = [some (.ref ak), some (.ref ar), some (.ref as), some (.int extra), some (.ref x), some (.int b.name), v_at, v_thing, v_slot] ∧ Same H H' ∧ (∀ b ∈ HA.foot A x, H b = none) ∧
     H' l2 = some (.lst ((Qy 1 bs.length).map V.int)) ∧ l2 ∉ HA.foot A x ∧ HouseAt C H' x A ⟨bs.length + extra, S, bs.length, Z0 bs i j, e4, e4⟩ ∧ S.length = ts.length) ?_ ?_ ?_ ?_
    ·exact ⟨_, _, _, A, S, rfl, s, f, h, n, hh, hS⟩
    ·rintro j σ H' _ ⟨_, _, _, A, S, rfl, s, f, h, n, hh, hS⟩
     exact s _ _ hv
    ·clear hS hh f n s h v1 v2 v3 v4
     rintro j y σ H' q1 hy ⟨v1, v2, v3, A, S, rfl, s, f, h, n, hh, hS⟩ hq1
     obtain ⟨t, ht, tv⟩ := QM htv hy
     have hj := (List.getElem?_eq_some_iff.mp ht).1
     have s2 := s.trans (Same.new (o := .tup [.int (j : Int), y]) hq1)
     have hh2 := hh.new (o := .tup [.int (j : Int), y]) hq1
     have h2 := Zt (o := .tup [.int (j : Int), y]) h hq1
     have htu := (Qb (H := H') (a := q1) (o := .tup [.int (j : Int), y]))
     generalize upd H' q1 (.tup [.int (j : Int), y]) = H5 at s2 hh2 h2 htu ⊢
     refine ⟨q1, _, _, rfl, htu, ?_⟩
     refine ⟨_, rfl, x, A.dx, _, rfl, hh2.ob, Qx (by decide +kernel), _, rfl, _, rfl, _, rfl, x, A, _, i, ⟨b.name, b.kind, b.row.take j ++ List.replicate (b.row.length - j) .non⟩, j, y, t, rfl, hh2, Qcb hb, ?_, tv.keep (Tups.of_same s2), ?_, fun A2 H2 hh3 fr2 tu2 gr2 => ?_⟩
     ·simp only [List.length_append, List.length_take, List.length_replicate]; omega
     ·intro n' e
      subst e
      have := hbo.ts _ (List.mem_of_getElem? ht)
      show n' ∈ (Z0 bs i j).map (·.name)
      rw [QfY, hnm, Zq]
      exact ⟨this.1, by have := this.2; omega⟩
     obtain ⟨g1, g2, g3, g4⟩ := Qdb (C := C) (S := HS.empty 0 0) s2 f h2 n fr2 gr2
     have e : HS.put ⟨bs.length + extra, S, bs.length, Z0 bs i j, e4, e4⟩ i j t = ⟨bs.length + extra, S, bs.length, Z0 bs i (j + 1), e4, e4⟩ := by
      unfold HS.put
      simp only [QgW hb ht]
     rw [e] at hh3
     exact ⟨_, _, _, A2, S, rfl, g1, g2, g3, g4, hh3, hS⟩
    ·rintro σ H' ⟨v1, v2, v3, A, S, rfl, s, f, h, n, hh, hS⟩
     rw [← hlen, QfX hb] at hh
     exact ⟨_, _, _, _, A, S, rfl, s, f, h, n, hh, hS⟩
   ·clear hS hh hh4 f n s s4 h4 h hl3 v1 v2 v3 v4
    rintro σ H' ⟨v1, v2, v3, v4, A, S, rfl, s, f, h, n, hh, hS⟩
    rw [en, QgX] at hh
    refine ⟨_, rfl, as, ws, rfl, s _ _ hw, ?_⟩
    refine Qc9 (xs := ws) (fun j σ H' => ∃ v_name v_at v_thing v_slot A, σ = [some (.ref ak), some (.ref ar), some (.ref as), some (.int extra), some (.ref x), v_name, v_at, v_thing, v_slot] ∧ Same H H' ∧ (∀ b ∈ HA.foot A x, H b = none) ∧
     H' l2 = some (.lst ((Qy 1 bs.length).map V.int)) ∧ l2 ∉ HA.foot A x ∧ HouseAt C H' x A ⟨bs.length + extra, ts.take j ++ S.drop j, bs.length, bs, e4, e4⟩) ?_ ?_ ?_ ?_
    ·exact ⟨_, _, _, _, A, rfl, s, f, h, n, by simpa using hh⟩
    ·rintro j σ H' _ ⟨_, _, _, _, A, rfl, s, f, h, n, hh⟩
     exact s _ _ hw
    ·clear hh f n s h v1 v2 v3 v4
     rintro j y σ H' q1 hy ⟨v1, v2, v3, v4, A, rfl, s, f, h, n, hh⟩ hq1
     obtain ⟨t, ht, tv⟩ := QM htw hy
     have hj := (List.getElem?_eq_some_iff.mp ht).1
     have s2 := s.trans (Same.new (o := .tup [.int (j : Int), y]) hq1)
     have hh2 := hh.new (o := .tup [.int (j : Int), y]) hq1
     have h2 := Zt (o := .tup [.int (j : Int), y]) h hq1
     have htu := (Qb (H := H') (a := q1) (o := .tup [.int (j : Int), y]))
     generalize upd H' q1 (.tup [.int (j : Int), y]) = H5 at s2 hh2 h2 htu ⊢
     refine ⟨q1, _, _, rfl, htu, ?_⟩
     refine ⟨_, rfl, x, A.dx, _, rfl, hh2.ob, Qx (by decide +kernel), _, rfl, _, rfl, x, A, _, j, y, t, rfl, hh2, ?_, tv.keep (Tups.of_same s2), ?_, fun A2 H2 hh3 fr2 tu2 gr2 => ?_⟩
     ·simp only [List.length_append, List.length_take, List.length_drop]; omega
     ·intro n' e
      subst e
      have := hts _ (List.mem_of_getElem? ht)
      show n' ∈ bs.map (·.name)
      rw [hnm, Zq]
      exact ⟨this.1, by have := this.2; omega⟩
     obtain ⟨g1, g2, g3, g4⟩ := Qdb (C := C) (S := HS.empty 0 0) s2 f h2 n fr2 gr2
     have e : HS.hold ⟨bs.length + extra, ts.take j ++ S.drop j, bs.length, bs, e4, e4⟩ j t = ⟨bs.length + extra, ts.take (j + 1) ++ S.drop (j + 1), bs.length, bs, e4, e4⟩ := by
      unfold HS.hold
      simp only [Qb6 ht (show j < S.length by omega)]
     rw [e] at hh3
     exact ⟨_, _, _, _, A2, rfl, g1, g2, g3, g4, hh3⟩
    ·rintro σ H' ⟨v1, v2, v3, v4, A, rfl, s, f, h, n, hh⟩
     have e : ts.take ws.length ++ S.drop ws.length = ts := by
      rw [← QB htw, List.take_length, List.drop_eq_nil_of_le (by omega), List.append_nil]
     rw [e] at hh
     exact ⟨_, rfl, q x A H' s hh f⟩
end
end LW
namespace LW
open PySem L2
section
variable {P : Program} {w : World} {K : PySem.W.Frag} {mg : Str → Option Value} {base : Heap} {C : Addr}
theorem QcW {n : Nat} {f : Addr} {fd : FuncData} (F : Fun K "watch" "House.watch" Zj f fd) (T : TX K mg C) (M1_ : MethOk P w K mg base C n "check_guard" ["self", "guard"] (QaL C) [[]])
  (M2_ : MethOk P w K mg base C n "check_box" ["self", "name"] (Z7 C) [[]]) :
  FnOk P w K mg base CX0 (n + 1) f fd ["self", "guard", "name"] (Qhs C) := by
 obtain ⟨f1_, fd1_, m1_, G1_, b1_⟩ := M1_
 obtain ⟨f2_, fd2_, m2_, G2_, b2_⟩ := M2_
 refine F.ok QcQ (fun vs H Q E h => ?_) (fun cdv A outer s H vs Q E hr h => ?_)
 ·obtain ⟨p, A', S, g, n', ns, rfl, _⟩ := h
  rfl
 ·obtain ⟨p, A', S, g, n', ns, rfl, hh, hg, hq, hn, hnot, hlen, k⟩ := h
  have hu := Q0 hr
  refine ⟨_, (Qe (QH (Qz (pv 0) T.cl m1_ G1_ hr (b1_ [] (by simp)) .nil Qp (Qa (pv 1) Qf)))
   (Qe (QH (Qz (pv 0) T.cl m2_ G2_ hr (b2_ [] (by simp)) .nil Qp (Qa (pv 2) Qf)))
   (Qe (Ze (QS QhY (pv 2) (QX QY (ZM (pv 0) rfl) (pv 1) (fun _ _ => rfl)) rfl) (Qh Qcd) QA)
   (Qh (QH (Qfs PySem.F.plainAttrs_list PySem.F.slot_list_append PySem.F.type_list_append QaH (QX QY (ZM (pv 0) rfl) (pv 1) (fun _ _ => rfl)) (Qa (pv 2) Qf))))))), ?_⟩
  obtain ⟨a, ha, hi⟩ := ZK hh.ql hq
  have hix : atI (A'.ql.map V.ref) (g : Int) = some (.ref a) := ZI (by rw [List.getElem?_map, ha]; rfl)
  refine ⟨_, rfl, p, A'.dx, _, rfl, hh.ob, Qx (by decide +kernel), _, rfl, p, g, rfl, by omega, by omega, ?_⟩
  refine ⟨_, rfl, p, A'.dx, _, rfl, hh.ob, Qx (by decide +kernel), _, rfl, p, A', S, n', rfl, hh, hn, ?_⟩
  refine ⟨_, rfl, _, rfl, p, C, A'.dx, _, _, rfl, hh.ob, T.cl, T.n_queues, QdL, _, rfl, A'.qs, _, g, .ref a, rfl, rfl, SqL.of hh.qs, hix, a, _, rfl, .inl (SqL.of hi), rfl, QdM ns, _, rfl, iteB ?_ ?_⟩
  ·show inV (.int n') (ns.map V.int) = false
   rw [Qe1]; exact decide_eq_false hnot
  refine ⟨_, rfl, p, C, A'.dx, _, _, rfl, hh.ob, T.cl, T.n_queues, QdL, _, rfl, A'.qs, _, g, .ref a, rfl, rfl, SqL.of hh.qs, hix, .inl ⟨rfl, _, SqL.of hi⟩, _, rfl, a, _, _, rfl, rfl, hi, by rw [List.length_map]; exact QP (by omega), ?_⟩
  have e : ns.map V.int ++ [V.int n'] = (ns ++ [n']).map V.int := by simp
  rw [e]
  exact hh.outOne (by simp [HA.lists, List.mem_of_getElem? ha]) hi (hh.setQueue ha hi) k
theorem QcV {n : Nat} {f : Addr} {fd : FuncData} (F : Fun K "words" "House.words" Zi f fd) (T : TX K mg C) (M1_ : MethOk P w K mg base C n "check_guard" ["self", "guard"] (QaL C) [[]]) :
  FnOk P w K mg base CX0 (n + 1) f fd ["self", "guard"] (Qhr C) := by
 obtain ⟨f1_, fd1_, m1_, G1_, b1_⟩ := M1_
 refine F.ok QcP (fun vs H Q E h => ?_) (fun cdv A outer s H vs Q E hr h => ?_)
 ·obtain ⟨p, A', S, g, ns, rfl, _⟩ := h
  rfl
 ·obtain ⟨p, A', S, g, ns, rfl, hh, hg, hq, k⟩ := h
  have hu := Q0 hr
  refine ⟨_, (Qe (QH (Qz (pv 0) T.cl m1_ G1_ hr (b1_ [] (by simp)) .nil Qp (Qa (pv 1) Qf)))
   (Qh (Qu (QaP QcM (by rfl) T.g_list PyProof.Rows.boot_list (Qa (QX QY (ZM (pv 0) rfl) (pv 1) (fun _ _ => rfl)) Qf))))), ?_⟩
  obtain ⟨a, ha, hi⟩ := ZK hh.tl hq
  refine ⟨_, rfl, p, A'.dx, _, rfl, hh.ob, Qx (by decide +kernel), _, rfl, p, g, rfl, by omega, by omega, ?_⟩
  refine ⟨_, rfl, p, C, A'.dx, _, _, rfl, hh.ob, T.cl, T.n_told, QjP, _, rfl, A'.td, _, g, .ref a, rfl, rfl, SqL.of hh.td, ZI (by rw [List.getElem?_map, ha]; rfl), a, _, rfl, .inl (SqL.of hi), k⟩
end
end LW
namespace LW
open PySem L2
section
variable {P : Program} {w : World} {K : PySem.W.Frag} {mg : Str → Option Value} {base : Heap} {C : Addr}
theorem Qd9 {n : Nat} {f : Addr} {fd : FuncData} (F : Fun K "_law_waits" "_law_waits" ZP f fd) (T : TX K mg C) (D1_ : DefOk P w K mg base n "_law_draw" ["script", "k"] (QbV K) [[]]) :
  FnOk P w K mg base CX0 (n + 1) f fd ["script", "many"] (Qhu K) := by
 obtain ⟨f1_, fd1_, n1_, k1_, J1_, c1_⟩ := D1_
 refine F.ok ZZ (fun vs H Q E h => ?_) (fun cdv A outer s H vs Q E hr h => ?_)
 ·obtain ⟨a, ns, many, rfl, _⟩ := h
  rfl
 ·obtain ⟨a, ns, many, rfl, hS, hm, q⟩ := h
  have hu := Q0 hr
  refine ⟨_, (Qe (QD (i := 2) ZZ.nd rfl (Or.inl rfl) (ZY (Qa (ZY Qf) (Qa (ZY Qf) (Qa (ZY Qf) (Qa (ZY Qf) Qf))))))
   (Qe (ZX PassesOwn.never rfl (Zx (by rfl) T.g_range (Qa (QC Q6 (Qm J1_ hr (by rfl) n1_ k1_ (c1_ [] (by simp)) .nil Qp (Qa (pv 0) (Qa Qi Qf))) Qi) Qf)) (ZH (i := 3) ZZ.nd rfl (Or.inl rfl))
   (Qe (QD (i := 4) ZZ.nd rfl (Or.inl rfl) (Qm J1_ hr (by rfl) n1_ k1_ (c1_ [] (by simp)) .nil Qp (Qa (pv 0) (Qa (QC Zo Qi (pv 3)) Qf))))
   (Qe (QD (i := 5) ZZ.nd rfl (Or.inl rfl) (QC Zo Qi (QC Q6 (QC Qbp (pv 4) Qi) (pv 1))))
   (Qh (Ze (QS QcG (pv 5) (QX QY (pv 2) (QC Q6 (pv 4) Qi) (fun _ _ => rfl)) rfl) (Qh (QH (Qfs PySem.F.plainAttrs_list PySem.F.slot_list_append PySem.F.type_list_append QaH (QX QY (pv 2) (QC Q6 (pv 4) Qi) (fun _ _ => rfl)) (Qa (pv 5) Qf)))) QA)))))
   (Qh (Qu (pv 2))))), ?_⟩
  refine ⟨Nat.zero_le _, fun a0 h0 => ⟨Nat.zero_le _, fun a1 h1 => ⟨Nat.zero_le _, fun a2 h2 => ⟨Nat.zero_le _, fun a3 h3 => ⟨by show 4 ≤ sizeLine; decide, fun l hl => ?_⟩⟩⟩⟩⟩
  have n10 := Qd (Qb (H := H) (a := a0) (o := .lst [])) h1
  have n20 := Qd (Zt (o := .lst []) (Qb (H := H) (a := a0) (o := .lst [])) h1) h2
  have n21 := Qd (Qb (H := upd H a0 (.lst [])) (a := a1) (o := .lst [])) h2
  have f1 : H a1 = none := Qau h1
  have f2 : H a2 = none := Qau (Qau h2)
  have f3 : H a3 = none := Qau (Qau (Qau h3))
  have fl : H l = none := Qau (Qau (Qau (Qau hl)))
  have s4 : Same H (upd (upd (upd (upd H a0 (.lst [])) a1 (.lst [])) a2 (.lst [])) a3 (.lst [])) := ((((Same.new h0).trans (Same.new h1)).trans (Same.new h2)).trans (Same.new h3))
  have g3 : (upd (upd (upd (upd H a0 (.lst [])) a1 (.lst [])) a2 (.lst [])) a3 (.lst [])) a3 = some (.lst []) := Qb
  have g2 : (upd (upd (upd (upd H a0 (.lst [])) a1 (.lst [])) a2 (.lst [])) a3 (.lst [])) a2 = some (.lst []) := Zt Qb h3
  have g1 : (upd (upd (upd (upd H a0 (.lst [])) a1 (.lst [])) a2 (.lst [])) a3 (.lst [])) a1 = some (.lst []) := Zt (Zt Qb h2) h3
  have g0 : (upd (upd (upd (upd H a0 (.lst [])) a1 (.lst [])) a2 (.lst [])) a3 (.lst [])) a0 = some (.lst []) := Zt (Zt (Zt Qb h1) h2) h3
  have n30 : a0 ≠ a3 := Qd (Zt (Zt Qb h1) h2) h3
  have n31 : a1 ≠ a3 := Qd (Zt Qb h2) h3
  have n32 : a2 ≠ a3 := Qd Qb h3
  generalize upd (upd (upd (upd H a0 (.lst [])) a1 (.lst [])) a2 (.lst [])) a3 (.lst []) = H4 at s4 g0 g1 g2 g3 hl ⊢
  have m0 := Qd g0 hl
  have m1 := Qd g1 hl
  have m2 := Qd g2 hl
  have m3 := Qd g3 hl
  refine ⟨_, rfl, a, ns, 800, rfl, hS.keep (Frz.of_same (s4.trans (Same.new hl))), _, _, rfl, rfl, (by show (0 : Int) < 9; decide), ?_⟩
  have hd := drw_nn ns 800
  refine ⟨drw ns 800 % 9, rfl, by omega, by omega, ?_⟩
  refine QaJ (n := (drw ns 800 % 9).toNat) (fun i σ H' => ∃ v_k v_cell v_name, σ = [some (.ref a), some (.int many), some (.ref l), v_k, v_cell, v_name] ∧ Same H H' ∧ ∃ xss, LlsNew H H' l xss ∧ xss.length = 4 ∧ ∀ xs ∈ xss, xs.Nodup ∧ xs.length ≤ i ∧ ∀ n ∈ xs, 1 ≤ n ∧ n ≤ many) ?_ ?_ ?_
  ·refine ⟨_, _, _, rfl, s4.trans (Same.new hl), [[], [], [], []], ⟨[a0, a1, a2, a3], ⟨Qb, .cons (Zt g0 hl) (.cons (Zt g1 hl) (.cons (Zt g2 hl) (.cons (Zt g3 hl) .nil)))⟩, ?_, ?_⟩, rfl, ?_⟩
   ·simp only [List.nodup_cons, List.mem_cons, List.not_mem_nil, or_false, not_or, List.nodup_nil, not_false_eq_true, and_true]
    exact ⟨⟨m0.symm, m1.symm, m2.symm, m3.symm⟩, ⟨n10, n20, n30⟩, ⟨n21, n31⟩, n32⟩
   ·intro b hb
    have hb : b = l ∨ b = a0 ∨ b = a1 ∨ b = a2 ∨ b = a3 := by simpa using hb
    rcases hb with rfl | rfl | rfl | rfl | rfl <;> assumption
   ·intro xs hx
    have hx : xs = [] := by simpa using hx
    subst hx
    simp
  ·rintro i σ H' hi ⟨v1, v2, v3, rfl, s, xss, ⟨al, ⟨hw, hp⟩, nd, fr⟩, hlen, hok⟩
   refine ⟨_, rfl, _, rfl, _, _, rfl, rfl, a, ns, _, rfl, hS.keep (Frz.of_same s), ?_⟩
   generalize drw ns (801 + (0 + (i : Int))) = c
   refine ⟨_, rfl, _, _, rfl, rfl, ⟨by decide, by decide⟩, _, rfl, _, _, rfl, rfl, (by show (0 : Int) < many; omega), _, _, rfl, rfl, ?_⟩
   have h5 := Int.emod_nonneg (c / 4) (show many ≠ 0 by omega)
   have h6 := Int.emod_lt_of_pos (c / 4) (show (0 : Int) < many by omega)
   obtain ⟨g, hg⟩ : ∃ g : Nat, c % 4 = (g : Int) := ⟨(c % 4).toNat, by omega⟩
   have hg4 : g < xss.length := by omega
   obtain ⟨xs, hxs⟩ : ∃ xs, xss[g]? = some xs := ⟨xss[g], List.getElem?_eq_getElem hg4⟩
   obtain ⟨b, hb, hib⟩ := ZK hp hxs
   have hix : atI (al.map V.ref) (c % 4) = some (.ref b) := by rw [hg]; exact ZI (by rw [List.getElem?_map, hb]; rfl)
   have hxo := hok xs (List.mem_of_getElem? hxs)
   refine ⟨_, rfl, _, rfl, _, rfl, _, _, rfl, rfl, (by show (0 : Int) < 4; decide), l, _, _, .ref b, rfl, rfl, SqL.of hw, hix, b, _, rfl, .inl (SqL.of hib), rfl, QdM xs, _, rfl, Qg6 (fun hin => ?_) (fun _ => ?_)⟩
   ·have hin : inV (.int (1 + c / 4 % many)) (xs.map V.int) = false := by simpa using hin
    rw [Qe1] at hin
    have hin := of_decide_eq_false hin
    refine ⟨_, rfl, _, rfl, _, _, rfl, rfl, (by show (0 : Int) < 4; decide), l, _, _, .ref b, rfl, rfl, SqL.of hw, hix, .inl ⟨rfl, _, SqL.of hib⟩, _, rfl, b, _, _, rfl, rfl, hib, by rw [List.length_map]; exact QP (by omega), ?_⟩
    have hbm := List.mem_of_getElem? hb
    have e : xs.map V.int ++ [V.int (1 + c / 4 % many)] = (xs ++ [1 + c / 4 % many]).map V.int := by simp
    rw [e]
    refine ⟨_, _, _, rfl, fun x o q => ?_, xss.set g (xs ++ [1 + c / 4 % many]), ⟨al, ⟨?_, Qh4 hp (List.nodup_cons.mp nd).2 hb Qb (fun c _ n => Qg n)⟩, nd, fr⟩, by simp [hlen], fun ys hy => ?_⟩
    ·rw [Qg (Qd q (fr b (by simp [hbm])))]; exact s _ _ q
    ·rw [Qg (show l ≠ b from fun q => (List.nodup_cons.mp nd).1 (by rw [q]; exact hbm))]; exact hw
    ·rcases List.mem_or_eq_of_mem_set hy with z | rfl
     ·exact ⟨(hok ys z).1, by have := (hok ys z).2.1; omega, (hok ys z).2.2⟩
     ·refine ⟨QdD hxo.1 hin, by simp; omega, fun m hm => ?_⟩
      rcases List.mem_append.mp hm with z | z
      ·exact hxo.2.2 m z
      ·rw [List.mem_singleton.mp z]; omega
   ·exact ⟨_, _, _, rfl, s, xss, ⟨al, ⟨hw, hp⟩, nd, fr⟩, hlen, fun ys hy => ⟨(hok ys hy).1, by have := (hok ys hy).2.1; omega, (hok ys hy).2.2⟩⟩
  ·rintro σ H' ⟨v1, v2, v3, rfl, s, xss, hL, hlen, hok⟩
   exact ⟨_, rfl, q l xss H' s hL hlen fun ys hy => ⟨(hok ys hy).1, by have := (hok ys hy).2.1; omega, (hok ys hy).2.2⟩⟩
theorem QcZ {n : Nat} {f : Addr} {fd : FuncData} (F : Fun K "_law_watched" "_law_watched" Zm f fd) (T : TX K mg C) (M1_ : MethOk P w K mg base C n "watch" ["self", "guard", "name"] (Qhs C) [[]]) :
  FnOk P w K mg base CX0 (n + 1) f fd ["house", "waits"] (Qfe C) := by
 obtain ⟨f1_, fd1_, m1_, G1_, b1_⟩ := M1_
 refine F.ok Qar (fun vs H Q E h => ?_) (fun cdv A outer s H vs Q E hr h => ?_)
 ·obtain ⟨p, w, A', S, al, xss, rfl, _⟩ := h
  rfl
 ·obtain ⟨p, w, A', S, al, xss, rfl, hh, ⟨hw, hp⟩, hout, hq0, hlen, hok, k⟩ := h
  have hu := Q0 hr
  refine ⟨_, (Qh (ZX PassesOwn.never rfl (Zx (by rfl) T.g_range (Qa Qi Qf)) (ZH (i := 2) Qar.nd rfl (Or.inl rfl))
   (Qh (ZX PassesOwn.never rfl (Z5 (QX QY (pv 1) (pv 2) (fun _ _ => rfl))) (ZH (i := 3) Qar.nd rfl (Or.inl rfl))
   (Qh (QH (Qz (pv 0) T.cl m1_ G1_ hr (b1_ [] (by simp)) .nil Qp (Qa (pv 2) (Qa (pv 3) Qf))))))))), ?_⟩
  refine ⟨4, rfl, by decide, by decide, ?_⟩
  refine QaJ (n := 4) (fun i σ H' => ∃ v_guard v_name A1, σ = [some (.ref p), some (.ref w), v_guard, v_name] ∧ Upto C H p A' H' A1 { S with queues := xss.take i ++ S.queues.drop i }) ?_ ?_ ?_
  ·exact ⟨_, _, A', rfl, by simpa using Upto.refl hh⟩
  ·rintro i σ H1 hi ⟨v1, v2, A1, rfl, u⟩
   obtain ⟨xs, hxs⟩ : ∃ xs, xss[i]? = some xs := ⟨xss[i], List.getElem?_eq_getElem (by omega)⟩
   obtain ⟨b, hb, hib⟩ := ZK hp hxs
   have hbm := List.mem_of_getElem? hb
   have hxo := hok xs (List.mem_of_getElem? hxs)
   have hw1 := (u.keep hw (hout w (by simp))).1
   have hb0 := u.keep hib (hout b (by simp [hbm]))
   have e0 : (0 : Int) + (i : Int) = (i : Int) := Int.zero_add _
   rw [e0]
   have hql : (S.queues).length = 4 := by rw [hq0]; rfl
   have hqi : S.queues[i]? = some [] := by
    rw [hq0]
    rcases i with _ | _ | _ | _ | _
    ·rfl
    ·rfl
    ·rfl
    ·rfl
    ·omega
   refine ⟨_, rfl, _, rfl, w, _, i, .ref b, rfl, rfl, SqL.of hw1, ZI (by rw [List.getElem?_map, hb]; rfl), b, rfl, ⟨_, SqL.of hb0.1⟩, ?_⟩
   refine Qax (K := K) (xs := xs.map V.int) (fun j σ H' => ∃ v_name A1, σ = [some (.ref p), some (.ref w), some (.int i), v_name] ∧ Upto C H p A' H' A1 { S with queues := (xss.take i ++ S.queues.drop i).set i (xs.take j) }) ?_ ?_ ?_ ?_
   ·refine ⟨_, A1, rfl, ?_⟩
    have e : (xss.take i ++ S.queues.drop i).set i (xs.take 0) = xss.take i ++ S.queues.drop i := by
     refine List.ext_getElem? fun m => ?_
     rw [List.getElem?_set]
     by_cases z : i = m
     ·subst z
      have hl : i < (xss.take i ++ S.queues.drop i).length := by simp; omega
      rw [if_pos rfl, if_pos hl, List.getElem?_append_right (by simp; omega)]
      simp only [List.take_zero, List.length_take, List.getElem?_drop]
      rw [show i + (i - min i xss.length) = i by omega, hqi]
     ·rw [if_neg z]
    rw [e]; exact u
   ·rintro j σ H2 _ ⟨v, A2, rfl, u2⟩
    exact SqL.of (u2.keep hib (hout b (by simp [hbm]))).1
   ·rintro j y σ H2 hy ⟨v, A2, rfl, u2⟩
    obtain ⟨m, hm, rfl⟩ : ∃ m, xs[j]? = some m ∧ y = .int m := by
     rw [List.getElem?_map] at hy
     cases e : xs[j]? with
     | none => rw [e] at hy; cases hy
     | some m => rw [e] at hy; exact ⟨m, rfl, (Option.some.inj hy).symm⟩
    have hj := (List.getElem?_eq_some_iff.mp hm).1
    have hli : i < (xss.take i ++ S.queues.drop i).length := by simp; omega
    have hqu : ((xss.take i ++ S.queues.drop i).set i (xs.take j))[i]? = some (xs.take j) := by rw [List.getElem?_set, if_pos rfl, if_pos hli]
    refine ⟨_, rfl, p, A2.dx, _, rfl, u2.hh.ob, Qx (by decide +kernel), _, rfl, _, rfl, p, A2, _, i, m, xs.take j, rfl, u2.hh, by omega, hqu, hxo.2.2 m (List.mem_of_getElem? hm), ?_, by rw [List.length_take]; have := hxo.2.1; omega, fun A3 H3 hh3 fr3 tu3 gr3 => ?_⟩
    ·intro hmem
     obtain ⟨j2, hj2⟩ := List.getElem?_of_mem hmem
     have hlt := (List.getElem?_eq_some_iff.mp hj2).1
     rw [List.length_take] at hlt
     rw [List.getElem?_take_of_lt (by omega)] at hj2
     have := QcH hxo.1 hj2 hm
     omega
    have e : (HS.watch { S with queues := (xss.take i ++ S.queues.drop i).set i (xs.take j) } i (xs.take j) m) = { S with queues := (xss.take i ++ S.queues.drop i).set i (xs.take (j + 1)) } := by
     unfold HS.watch
     simp only [List.set_set]
     rw [List.take_add_one, hm]
     rfl
    rw [e] at hh3
    exact ⟨_, A3, rfl, u2.step hh3 fr3 tu3 gr3⟩
   ·rintro σ H2 ⟨v, A2, rfl, u2⟩
    rw [List.length_map, List.take_length, Qb6 hxs (by omega)] at u2
    exact ⟨_, _, A2, rfl, u2⟩
  ·rintro σ H1 ⟨v1, v2, A1, rfl, u⟩
   have e : xss.take 4 ++ S.queues.drop 4 = xss := by
    rw [← hlen, List.take_length, hq0, hlen]
    simp
   rw [e] at u
   exact u.out k
theorem QdC {n : Nat} {f : Addr} {fd : FuncData} (F : Fun K "_law_guards" "_law_guards" ZG f fd) (T : TX K mg C) (D1_ : DefOk P w K mg base n "_law_names" ["found", "due"] (Qc5 K) [[]])
  (M2_ : MethOk P w K mg base C n "waiting" ["self", "guard"] (Qff C) [[]])
  (M3_ : MethOk P w K mg base C n "words" ["self", "guard"] (Qhr C) [[]]) :
  FnOk P w K mg base CX0 (n + 1) f fd ["house", "waits", "told"] (Qgq C) := by
 obtain ⟨f1_, fd1_, n1_, k1_, J1_, c1_⟩ := D1_
 obtain ⟨f2_, fd2_, m2_, G2_, b2_⟩ := M2_
 obtain ⟨f3_, fd3_, m3_, G3_, b3_⟩ := M3_
 refine F.ok Qbk (fun vs H Q E h => ?_) (fun cdv A outer s H vs Q E hr h => ?_)
 ·obtain ⟨p, w, t, A', S, al, bl, rfl, _⟩ := h
  rfl
 ·obtain ⟨p, w, t, A', S, al, bl, rfl, hh, ⟨hw, hp⟩, ⟨ht, hpt⟩, hl1, hl2, hb1, hb2, k⟩ := h
  have hu := Q0 hr
  refine ⟨_, (Qe (ZX PassesOwn.never rfl (Zx (by rfl) T.g_range (Qa Qi Qf)) (ZH (i := 3) Qbk.nd rfl (Or.inl rfl))
   (Qe (Ze (Qai (Z1 (Qm J1_ hr (by rfl) n1_ k1_ (c1_ [] (by simp)) .nil Qp (Qa (Qz (pv 0) T.cl m2_ G2_ hr (b2_ [] (by simp)) .nil Qp (Qa (pv 3) Qf)) (Qa (QX QY (pv 1) (pv 3) (fun _ _ => rfl)) Qf))))) (Qh (Qu QaQ)) QA)
   (Qh (Ze (Qai (Z1 (Qm J1_ hr (by rfl) n1_ k1_ (c1_ [] (by simp)) .nil Qp (Qa (Qz (pv 0) T.cl m3_ G3_ hr (b3_ [] (by simp)) .nil Qp (Qa (pv 3) Qf)) (Qa (QX QY (pv 2) (pv 3) (fun _ _ => rfl)) Qf))))) (Qh (Qu QaQ)) QA))))
   (Qh (Qu QaQ))), ?_⟩
  refine ⟨4, rfl, by decide, by decide, ?_⟩
  refine QaJ (n := 4) (fun i σ H' => ∃ v_guard, σ = [some (.ref p), some (.ref w), some (.ref t), v_guard] ∧ Same H H') ?_ ?_ ?_
  ·exact ⟨_, rfl, Same.refl _⟩
  ·rintro i σ H1 hi ⟨v1, rfl, s⟩
   have e0 : (0 : Int) + (i : Int) = (i : Int) := Int.zero_add _
   rw [e0]
   obtain ⟨xs, hxs⟩ : ∃ xs, S.queues[i]? = some xs := ⟨S.queues[i], List.getElem?_eq_getElem (by omega)⟩
   obtain ⟨ys, hys⟩ : ∃ ys, S.told[i]? = some ys := ⟨S.told[i], List.getElem?_eq_getElem (by omega)⟩
   obtain ⟨b, hb, hib⟩ := ZK hp hxs
   obtain ⟨d, hd, hid⟩ := ZK hpt hys
   have hh1 := hh.same s
   refine ⟨_, rfl, p, A'.dx, _, rfl, hh1.ob, Qx (by decide +kernel), _, rfl, p, A', S, i, xs, rfl, hh1, hi, hxs, fun l hl => ?_⟩
   have s2 := s.trans (Same.new (o := .lst (xs.map V.int)) hl)
   refine ⟨_, rfl, _, rfl, w, _, i, .ref b, rfl, rfl, SqL.of (s2 _ _ hw), ZI (by rw [List.getElem?_map, hb]; rfl), l, b, xs, rfl, Qb, SqL.of (s2 _ _ hib), hb1 xs (List.mem_of_getElem? hxs), _, rfl, Qbc ?_⟩
   have hh2 := hh.same s2
   refine ⟨_, rfl, p, A'.dx, _, rfl, hh2.ob, Qx (by decide +kernel), _, rfl, p, A', S, i, ys, rfl, hh2, hi, hys, fun l2 hl2' => ?_⟩
   have s3 := s2.trans (Same.new (o := .lst (ys.map V.int)) hl2')
   refine ⟨_, rfl, _, rfl, t, _, i, .ref d, rfl, rfl, SqL.of (s3 _ _ ht), ZI (by rw [List.getElem?_map, hd]; rfl), l2, d, ys, rfl, Qb, SqL.of (s3 _ _ hid), hb2 ys (List.mem_of_getElem? hys), _, rfl, Qbc ?_⟩
   exact ⟨_, rfl, s3⟩
  ·rintro σ H1 ⟨v1, rfl, s⟩
   exact k _ s
end
end LW
namespace L2
open PySem PySem.Spec PyProof.Rows
section
variable {X : Cx}
end
end L2
namespace LW
open PySem L2
theorem QjN {X : Cx} {K' : PySem.W.Frag} (h : X.K = K') : IxR X (rIxT K') := h ▸ Zp
theorem Qis {X : Cx} {K' : PySem.W.Frag} (h : X.K = K') : Qc4 X (Value.builtin "isinstance") (fun xs H Q => ∃ x T t b, xs = [x, V.ty T] ∧ TyOf K' H x t ∧ PySem.W.kitOne K' t (Value.type T) = some b ∧ Q (V.bl b) H) := h ▸ Qay
end LW
namespace LW
open PySem L2
def Qt : List T → List Int
 | [] => []
 | .box n :: ts => n :: Qt ts
 | _ :: ts => Qt ts
theorem Z2 : ∀ (a b : List T), Qt (a ++ b) = Qt a ++ Qt b
 | [], b => rfl
 | .box n :: ts, b => by simp [Qt, Z2 ts b]
 | .non :: ts, b => by simp [Qt, Z2 ts b]
 | .num m :: ts, b => by simp [Qt, Z2 ts b]
theorem Z6 {n : Int} : ∀ {ts : List T}, n ∈ Qt ts ↔ .box n ∈ ts
 | [] => by simp [Qt]
 | .box m :: ts => by simp [Qt, Z6 (ts := ts)]
 | .non :: ts => by simp [Qt, Z6 (ts := ts)]
 | .num m :: ts => by simp [Qt, Z6 (ts := ts)]
theorem QaU : ∀ (ts : List T), (Qt ts).length ≤ ts.length
 | [] => Nat.le_refl _
 | .box m :: ts => by have := QaU ts; simp [Qt]; omega
 | .non :: ts => by have := QaU ts; simp [Qt]; omega
 | .num m :: ts => by have := QaU ts; simp [Qt]; omega
def QhF : Sp := fun vs H Q _ => ∃ (a : Addr) (ts : List T), vs = [.ref a] ∧ ThL H ts a ∧ ts.length ≤ 900 ∧ ∀ l H', Same H H' → H l = none → H' l = some (.lst ((Qt ts).map V.int)) → Q (.ref l) H'
end LW
namespace LW
open PySem L2
section
variable {P : Program} {w : World} {K : PySem.W.Frag} {mg : Str → Option Value} {base : Heap} {C CS : Addr}
theorem Qc3 : QW (Qc Zb) ["things"] (Q5 ((Qgv (QeA (Qj Zb) 0)))) "thing" [] [] :=
 ⟨by rfl, by decide +kernel, by decide +kernel, by decide +kernel, by rfl, by decide +kernel, by rfl, by decide +kernel⟩
theorem Qeg {n : Nat} {f : Addr} {fd : FuncData} (F : Fun K "_law_boxes" "_law_boxes" Zb f fd) (T : TX K mg C)  :
  FnOk P w K mg base CX0 (n + 1) f fd ["things"] (QhF) := by
 refine F.ok QdZ (fun vs H Q E h => ?_) (fun cdv A outer s H vs Q E hr h => ?_)
 ·obtain ⟨a, ts, rfl, _⟩ := h
  rfl
 ·obtain ⟨a, ts, rfl, hts, few, k⟩ := h
  have hu := Q0 hr
  refine ⟨_, (Qh (Qu (Qas Qc3 rfl (Z5 (pv 0)) (fun _ _ _ _ => (QgA (Z1 (Qv (Qis (K' := K) rfl) (by rfl) T.g_isi PyProof.Rows.boot_isinstance (Qa (pv 0) (Qa (Qa0 (v := .ty "tuple") (by rfl) T.g_tuple PyProof.Rows.boot_tuple rfl) Qf)))))) (fun _ _ _ _ => (QX (QjN (K' := K) rfl) (pv 0) Qi (fun _ _ => rfl)))))), ?_⟩
  obtain ⟨vs, hv, pr⟩ := hts
  have len := QB pr
  refine ⟨_, rfl, a, rfl, ⟨_, SqL.of hv⟩, ?_⟩
  refine QaT (xs := vs) (fun i ys H' => H' = H ∧ ys = (Qt (ts.take i)).map V.int) ⟨rfl, rfl⟩ ?_ (Nat.le_trans (by omega) (show 900 ≤ sizeLine by decide)) ?_ ?_ ?_
  ·rintro i ys H' ⟨_, rfl⟩
   have := QaU (ts.take i)
   rw [List.length_map]
   rw [List.length_take] at this
   omega
  ·rintro i ys H' _ ⟨rfl, _⟩
   exact SqL.of hv
  ·rintro i x ys H' hx ⟨rfl, rfl⟩
   obtain ⟨t, ht, tv⟩ := QM pr hx
   have etk : ts.take (i + 1) = ts.take i ++ [t] := by rw [List.take_add_one, ht]; rfl
   rw [etk, Z2]
   cases t with
   | non =>
    have tv : x = .non := tv
    subst tv
    exact ⟨_, rfl, _, "tuple", _, false, rfl, .non, Qgl K, _, rfl, Qbc ⟨rfl, by simp [Qt]⟩⟩
   | num m =>
    have tv : x = .int m := tv
    subst tv
    exact ⟨_, rfl, _, "tuple", _, false, rfl, .int m, Qgm K, _, rfl, Qbc ⟨rfl, by simp [Qt]⟩⟩
   | box n =>
    obtain ⟨b, rfl, hb⟩ := tv
    exact ⟨_, rfl, _, "tuple", _, true, rfl, TyOf.tup hb, Qaw _ _, _, rfl, Qcm ⟨_, rfl, b, _, 1, .int n, rfl, rfl, SqT.of hb, rfl, rfl, by simp [Qt]⟩⟩
  ·rintro ys H' ⟨rfl, rfl⟩ l hl
   rw [← len, List.take_length]
   exact k l _ (Same.new hl) hl Qb
end
end LW
namespace LW
open PySem L2
theorem ZL {α : Type} {l : List α} {i : Nat} {x : α} (h : l[i]? = some x) : l.take (i + 1) = l.take i ++ [x] := by rw [List.take_add_one, h]; rfl
def QcO (ns xs : List Int) : List Int := xs.foldl (fun a x => if x ∈ a then a else a ++ [x]) ns
theorem QfQ (ns xs : List Int) (x : Int) : QcO ns (xs ++ [x]) = if x ∈ QcO ns xs then QcO ns xs else QcO ns xs ++ [x] := by
 unfold QcO; rw [List.foldl_append]; rfl
theorem QaV (ns xs : List Int) (x : Int) : QcO ns (x :: xs) = QcO (if x ∈ ns then ns else ns ++ [x]) xs := rfl
theorem QbG : ∀ (xs ns : List Int), ∃ ys, QcO ns xs = ns ++ ys
 | [], ns => ⟨[], by simp [QcO]⟩
 | x :: xs, ns => by
  rw [QaV]
  split
  ·exact QbG xs ns
  ·obtain ⟨ys, e⟩ := QbG xs (ns ++ [x])
   exact ⟨x :: ys, by rw [e]; simp⟩
theorem QdU : ∀ (xs : List Int) {ns : List Int}, ns.Nodup → (QcO ns xs).Nodup
 | [], ns, h => h
 | x :: xs, ns, h => by
  rw [QaV]
  split
  ·exact QdU xs h
  ·rename_i z; exact QdU xs (QdD h z)
theorem Qcs : ∀ (xs : List Int) {ns : List Int} {n : Int}, n ∈ QcO ns xs → n ∈ ns ∨ n ∈ xs
 | [], ns, n, h => .inl h
 | x :: xs, ns, n, h => by
  rw [QaV] at h
  split at h
  ·rcases Qcs xs h with z | z
   ·exact .inl z
   ·exact .inr (List.mem_cons_of_mem _ z)
  ·rcases Qcs xs h with z | z
   ·rcases List.mem_append.mp z with z | z
    ·exact .inl z
    ·exact .inr (by rw [List.mem_singleton.mp z]; exact List.mem_cons_self)
   ·exact .inr (List.mem_cons_of_mem _ z)
def wk (succ : Int → List Int) (n : Int) : Nat → List Int
 | 0 => [n]
 | k + 1 => match (wk succ n k)[k]? with
  | none => wk succ n k
  | some x => QcO (wk succ n k) (succ x)
theorem Qbd {succ : Int → List Int} {n x : Int} {k : Nat} (h : (wk succ n k)[k]? = some x) : wk succ n (k + 1) = QcO (wk succ n k) (succ x) := by
 show (match (wk succ n k)[k]? with | none => _ | some x => _) = _
 rw [h]
theorem Qcu {succ : Int → List Int} {n : Int} {k : Nat} (h : (wk succ n k)[k]? = none) : wk succ n (k + 1) = wk succ n k := by
 show (match (wk succ n k)[k]? with | none => _ | some x => _) = _
 rw [h]
theorem QgQ (succ : Int → List Int) (n : Int) : ∀ k, (wk succ n k).Nodup
 | 0 => by simp [wk]
 | k + 1 => by
  cases e : (wk succ n k)[k]? with
  | none => rw [Qcu e]; exact QgQ succ n k
  | some x => rw [Qbd e]; exact QdU _ (QgQ succ n k)
theorem Qev {succ : Int → List Int} {n : Int} {N : List Int} (h0 : n ∈ N) (hs : ∀ x ∈ N, ∀ y ∈ succ x, y ∈ N) : ∀ k, ∀ y ∈ wk succ n k, y ∈ N
 | 0 => by simpa [wk] using h0
 | k + 1 => by
  intro y hy
  cases e : (wk succ n k)[k]? with
  | none => rw [Qcu e] at hy; exact Qev h0 hs k y hy
  | some x =>
   rw [Qbd e] at hy
   rcases Qcs _ hy with z | z
   ·exact Qev h0 hs k y z
   ·exact hs x (Qev h0 hs k x (List.mem_of_getElem? e)) y z
theorem Qhi {succ : Int → List Int} {n : Int} {N : List Int} (h0 : n ∈ N) (hs : ∀ x ∈ N, ∀ y ∈ succ x, y ∈ N) (k : Nat) : (wk succ n k).length ≤ N.length := Qbr (QgQ succ n k) (Qev h0 hs k)
theorem Qeu {succ : Int → List Int} {n : Int} {k : Nat} (h : (wk succ n k).length ≤ k) : ∀ j, wk succ n (k + j) = wk succ n k
 | 0 => rfl
 | j + 1 => by
  have ih := Qeu h j
  have e : (wk succ n (k + j))[k + j]? = none := by rw [ih]; exact List.getElem?_eq_none (by omega)
  rw [← Nat.add_assoc, Qcu e, ih]
theorem Qi3 {succ : Int → List Int} {n : Int} {k m : Nat} (h : (wk succ n k).length = k) (hk : k ≤ m) : wk succ n k = wk succ n m := by
 obtain ⟨j, rfl⟩ := Nat.le.dest hk
 exact (Qeu (by omega) j).symm
def Zh (bs : List Box) (n : Int) : List Int := match bs.find? (fun b => decide (b.name = n)) with
 | some b => Qt b.row
 | none => []
theorem Qbz {bs : List Box} {i : Nat} {b : Box} (nd : (bs.map (·.name)).Nodup) (h : bs[i]? = some b) : Zh bs b.name = Qt b.row := by
 have hm := List.mem_of_getElem? h
 have : bs.find? (fun c => decide (c.name = b.name)) = some b := by
  induction bs generalizing i with
  | nil => simp at h
  | cons c r ih =>
   rw [List.find?_cons]
   by_cases e : c.name = b.name
   ·rw [decide_eq_true e]
    have nd' := List.nodup_cons.mp (show (c.name :: r.map (·.name)).Nodup from nd)
    rcases List.mem_cons.mp hm with z | z
    ·rw [z]
    ·exact absurd (List.mem_map.mpr ⟨b, z, e.symm⟩) nd'.1
   ·rw [decide_eq_false e]
    have nd' := List.nodup_cons.mp (show (c.name :: r.map (·.name)).Nodup from nd)
    rcases List.mem_cons.mp hm with z | z
    ·exact absurd (by rw [z]) e
    ·obtain ⟨j, hj⟩ := List.getElem?_of_mem z
     exact ih nd'.2 hj z
 unfold Zh
 rw [this]
def Closed (bs : List Box) : Prop := ∀ b ∈ bs, b.row.length ≤ 900 ∧ ∀ m, .box m ∈ b.row → m ∈ bs.map (·.name)
theorem Closed.succ {bs : List Box} (nd : (bs.map (·.name)).Nodup) (h : Closed bs) : ∀ x ∈ bs.map (·.name), ∀ y ∈ Zh bs x, y ∈ bs.map (·.name) := by
 intro x hx y hy
 obtain ⟨b, hb, rfl⟩ := List.mem_map.mp hx
 obtain ⟨i, hi⟩ := List.getElem?_of_mem hb
 rw [Qbz nd hi] at hy
 exact (h b hb).2 y (Z6.mp hy)
def Qq (bs : List Box) (n : Int) : List Int := wk (Zh bs) n bs.length
def Qck (ns : List Int) : List (Key × V) := ns.map fun n => ((Sum.inl n : Key), V.bl true)
theorem QfA (ns : List Int) (n : Int) : (QbP (Qck ns) (Sum.inl n)).isSome = decide (n ∈ ns) := by
 cases e : QbP (Qck ns) (Sum.inl n) with
 | some v =>
  have := Qhl e
  rw [Qck, List.map_map] at this
  obtain ⟨r, hr, z⟩ := List.mem_map.mp this
  have z : r = n := Sum.inl.inj z
  simp only [Option.isSome_some]
  exact (decide_eq_true (z ▸ hr)).symm
 | none =>
  have := QiB e
  refine (decide_eq_false fun m => this ?_).symm
  rw [Qck, List.map_map]
  exact List.mem_map.mpr ⟨n, m, rfl⟩
theorem Qh5 {ns : List Int} {n : Int} (h : n ∉ ns) : QbZ (Qck ns) (Sum.inl n) (.bl true) = Qck (ns ++ [n]) := by
 have e : QbP (Qck ns) (Sum.inl n) = none := by
  have := QfA ns n
  rw [decide_eq_false h] at this
  cases z : QbP (Qck ns) (Sum.inl n) with
  | none => rfl
  | some v => rw [z] at this; cases this
 unfold QbZ
 rw [Qby, e]
 show Qck ns ++ [(Sum.inl n, V.bl true)] = _
 simp [Qck]
def QeB (C : Addr) : Sp := fun vs H Q _ => ∃ (p : Addr) (A : HA) (S : HS) (i : Nat) (b : Box), vs = [.ref p, .int b.name] ∧ HouseAt C H p A S ∧ S.boxes[i]? = some b ∧ b.row.length ≤ 900 ∧ ∀ l H', Same H H' → H l = none → ThL H' b.row l → Q (.ref l) H'
def Qfh (C : Addr) : Sp := fun vs H Q _ => ∃ (p : Addr) (A : HA) (S : HS) (i : Nat) (b : Box), vs = [.ref p, .int b.name] ∧ HouseAt C H p A S ∧ S.boxes[i]? = some b ∧ b.row.length ≤ 900 ∧ ∀ l H', Same H H' → H l = none → H' l = some (.lst ((Qt b.row).map V.int)) → Q (.ref l) H'
def Qht (C : Addr) : Sp := fun vs H Q _ => ∃ (p : Addr) (A : HA) (S : HS) (n : Int), vs = [.ref p, .int n] ∧ HouseAt C H p A S ∧ n ∈ names S ∧ Closed S.boxes ∧ S.boxes.length ≤ 900 ∧ ∀ l H', Same H H' → H l = none → H' l = some (.lst ((Qq S.boxes n).map V.int)) → Q (.ref l) H'
def RowAt (H : Hp) (ar : Addr) (bs : List Box) (fl : List Addr) : Prop := H ar = some (.dK (Ql bs fl)) ∧ Paired (fun b a => ThL H b.row a) bs fl
def QfV : Sp := fun vs H Q _ => ∃ (ar : Addr) (bs : List Box) (fl : List Addr) (n : Int), vs = [.ref ar, .int n] ∧ RowAt H ar bs fl ∧ (bs.map (·.name)).Nodup ∧ n ∈ bs.map (·.name) ∧ Closed bs ∧ bs.length ≤ 900 ∧ ∀ l H', Same H H' → H l = none → H' l = some (.lst ((Qq bs n).map V.int)) → Q (.ref l) H'
end LW
namespace LW
open PySem L2
section
variable {P : Program} {w : World} {K : PySem.W.Frag} {mg : Str → Option Value} {base : Heap} {C : Addr}
theorem Qc1 : QW (Qc Q9) ["house", "name"] (Q5 ((Qgv (QeA (Qj Q9) 0)))) "at" ["name", "house"] [1, 0] :=
 ⟨by rfl, by decide +kernel, by decide +kernel, by decide +kernel, by rfl, by decide +kernel, by rfl, by decide +kernel⟩
theorem Qd6 {n : Nat} {f : Addr} {fd : FuncData} (F : Fun K "things_in" "things_in" Q9 f fd) (T : TX K mg C) (M1_ : MethOk P w K mg base C n "size" ["self", "name"] (Qgn C) [[]])
  (M2_ : MethOk P w K mg base C n "field" ["self", "name", "at"] (QeC C) [[]]) :
  FnOk P w K mg base CX0 (n + 1) f fd ["house", "name"] (QeB C) := by
 obtain ⟨f1_, fd1_, m1_, G1_, b1_⟩ := M1_
 obtain ⟨f2_, fd2_, m2_, G2_, b2_⟩ := M2_
 refine F.ok QdX (fun vs H Q E h => ?_) (fun cdv A outer s H vs Q E hr h => ?_)
 ·obtain ⟨p, A', S, i, b, rfl, _⟩ := h
  rfl
 ·obtain ⟨p, A', S, i, b, rfl, hh, hb, hrow, k⟩ := h
  have hu := Q0 hr
  refine ⟨_, (Qh (Qu (Qas Qc1 rfl (Zx (by rfl) T.g_range (Qa (Qz (pv 0) T.cl m1_ G1_ hr (b1_ [] (by simp)) .nil Qp (Qa (pv 1) Qf)) Qf)) (fun _ _ _ _ => ZW) (fun _ _ _ _ => (Qz (pv 2) T.cl m2_ G2_ hr (b2_ [] (by simp)) .nil Qp (Qa (pv 1) (Qa (pv 0) Qf))))))), ?_⟩
  refine ⟨_, rfl, p, A'.dx, _, rfl, hh.ob, Qx (by decide +kernel), _, rfl, p, A', S, i, b, rfl, hh, hb, (b.row.length : Int), rfl, by omega, by omega, ?_⟩
  refine QaB (lo := 0) (n := ((b.row.length : Int)).toNat) (fun j ys H' => H' = H ∧ Ths H (b.row.take j) ys) ⟨rfl, .nil⟩ ?_ (QaI (by omega)) ?_ ?_
  ·rintro j ys H' ⟨_, ht⟩
   rw [← QB ht, List.length_take]; omega
  ·rintro j ys H' hj ⟨rfl, ht⟩
   dsimp only [Qb3]
   have e0 : (0 : Int) + (j : Int) = (j : Int) := Int.zero_add _
   rw [e0]
   have hjr : j < b.row.length := by omega
   refine Qcm ⟨_, rfl, p, A'.dx, _, rfl, hh.ob, Qx (by decide +kernel), _, rfl, _, rfl, p, A', S, i, b, j, b.row[j], rfl, hh, hb, List.getElem?_eq_getElem hjr, fun v tv => ⟨rfl, ?_⟩⟩
   rw [ZL (List.getElem?_eq_getElem hjr)]
   exact Qaj ht (.cons tv .nil)
  ·rintro ys H4 ⟨rfl, ht⟩ r hr4
   rw [show ((b.row.length : Int)).toNat = b.row.length by omega, List.take_length] at ht
   exact k r _ (Same.new hr4) hr4 ⟨ys, Qb, Ths.keep (Tups.new hr4) ht⟩
theorem QdS : QW (Qc Q3) ["house", "name", "found"] (Q5 ((Qbu (QeA (Qj Q3) 0)))) "thing" [] [] :=
 ⟨by rfl, by decide +kernel, by decide +kernel, by decide +kernel, by rfl, by decide +kernel, by rfl, by decide +kernel⟩
theorem QdR : QW (Qc Q3) ["house", "name", "found"] (Q5 ((Qgv (QeA (Qj Q3) 1)))) "inner" [] [] :=
 ⟨by rfl, by decide +kernel, by decide +kernel, by decide +kernel, by rfl, by decide +kernel, by rfl, by decide +kernel⟩
theorem QeT {n : Nat} {f : Addr} {fd : FuncData} (F : Fun K "boxes_in" "boxes_in" Q3 f fd) (T : TX K mg C) (D1_ : DefOk P w K mg base n "things_in" ["house", "name"] (QeB C) [[]])
  (D2_ : DefOk P w K mg base n "box_name" ["thing"] (Qbh) [[]]) :
  FnOk P w K mg base CX0 (n + 1) f fd ["house", "name"] (Qfh C) := by
 obtain ⟨f1_, fd1_, n1_, k1_, J1_, c1_⟩ := D1_
 obtain ⟨f2_, fd2_, n2_, k2_, J2_, c2_⟩ := D2_
 refine F.ok Qb9 (fun vs H Q E h => ?_) (fun cdv A outer s H vs Q E hr h => ?_)
 ·obtain ⟨p, A', S, i, b, rfl, _⟩ := h
  rfl
 ·obtain ⟨p, A', S, i, b, rfl, hh, hb, hrow, k⟩ := h
  have hu := Q0 hr
  refine ⟨_, (Qe (Qem (i := 2) QdS rfl Qb9.nd rfl (Or.inl rfl) (Z5 (Qm J1_ hr (by rfl) n1_ k1_ (c1_ [] (by simp)) .nil Qp (Qa (pv 0) (Qa (pv 1) Qf)))) (fun _ _ _ _ => ZW) (fun _ _ _ _ => (Qm J2_ hr (by rfl) n2_ k2_ (c2_ [] (by simp)) .nil Qp (Qa (pv 0) Qf))))
   (Qh (Qu (Qas QdR rfl (Z5 (pv 2)) (fun _ _ _ _ => (QgA (Qdp (QhW (pv 0))))) (fun _ _ _ _ => (pv 0)))))), ?_⟩
  refine ⟨_, rfl, _, rfl, p, A', S, i, b, rfl, hh, hb, hrow, fun l H1 s1 hl ht => ?_⟩
  obtain ⟨vs, hv, pr⟩ := ht
  have len := QB pr
  refine ⟨l, rfl, ⟨_, SqL.of hv⟩, ?_⟩
  refine QaT (xs := vs) (fun j ys H' => H' = H1 ∧ ys = (b.row.take j).map LW.T.nm) ⟨rfl, rfl⟩ ?_ (Nat.le_trans (by omega) (show 900 ≤ sizeLine by decide)) ?_ ?_ ?_
  ·rintro j ys H' ⟨_, rfl⟩
   rw [List.length_map, List.length_take]; omega
  ·rintro j ys H' _ ⟨rfl, _⟩
   exact SqL.of hv
  ·rintro j x ys H' hx ⟨rfl, rfl⟩
   obtain ⟨t, ht, tv⟩ := QM pr hx
   dsimp only [Qb3]
   refine Qcm ⟨_, rfl, x, t, rfl, tv, ?_⟩
   exact ⟨rfl, by rw [ZL ht, List.map_append]; rfl⟩
  rintro ys H' ⟨rfl, rfl⟩ l2 hl2
  rw [← len, List.take_length]
  refine ⟨_, rfl, l2, rfl, ⟨_, SqL.of Qb⟩, ?_⟩
  refine QaT (xs := b.row.map LW.T.nm) (fun j ys H2 => H2 = upd H' l2 (.lst (b.row.map LW.T.nm)) ∧ ys = (Qt (b.row.take j)).map V.int) ⟨rfl, rfl⟩ ?_ (Nat.le_trans (by rw [List.length_map]; omega) (show 900 ≤ sizeLine by decide)) ?_ ?_ ?_
  ·rintro j ys H2 ⟨_, rfl⟩
   have := QaU (b.row.take j)
   rw [List.length_map]
   rw [List.length_take] at this
   omega
  ·rintro j ys H2 _ ⟨rfl, _⟩
   exact SqL.of Qb
  ·rintro j x ys H2 hx ⟨rfl, rfl⟩
   rw [List.getElem?_map] at hx
   cases ht : b.row[j]? with
   | none => rw [ht] at hx; cases hx
   | some t =>
    rw [ht] at hx
    obtain rfl : LW.T.nm t = x := Option.some.inj hx
    rw [ZL ht, Z2]
    cases t with
    | non => exact ⟨_, rfl, _, rfl, Qbc ⟨rfl, by simp [Qt]⟩⟩
    | num m => exact ⟨_, rfl, _, rfl, Qbc ⟨rfl, by simp [Qt]⟩⟩
    | box n => exact ⟨_, rfl, _, rfl, Qcm ⟨_, rfl, rfl, by simp [Qt]; rfl⟩⟩
  ·rintro ys H2 ⟨rfl, rfl⟩ l3 hl3
   rw [List.length_map, List.take_length]
   exact k l3 _ ((s1.trans (Same.new hl2)).trans (Same.new hl3)) ((s1.trans (Same.new hl2)).free hl3) Qb
theorem QfF {S : HS} {n : Int} (h : n ∈ names S) : ∃ (i : Nat) (b : Box), S.boxes[i]? = some b ∧ b.name = n := by
 obtain ⟨b, hb, e⟩ := List.mem_map.mp h
 obtain ⟨i, hi⟩ := List.getElem?_of_mem hb
 exact ⟨i, b, hi, e⟩
def walkMu : St → Nat
 | [_, _, _, _, some (.int k), _, _] => (901 - k).toNat
 | _ => 0
theorem QhZ {n : Nat} {f : Addr} {fd : FuncData} (F : Fun K "walk" "walk" QbC f fd) (T : TX K mg C) (M1_ : MethOk P w K mg base C n "check_box" ["self", "name"] (Z7 C) [[]])
  (D2_ : DefOk P w K mg base n "boxes_in" ["house", "name"] (Qfh C) [[]]) :
  FnOk P w K mg base CX0 (n + 1) f fd ["house", "name"] (Qht C) := by
 obtain ⟨f1_, fd1_, m1_, G1_, b1_⟩ := M1_
 obtain ⟨f2_, fd2_, n2_, k2_, J2_, c2_⟩ := D2_
 refine F.ok QaF (fun vs H Q E h => ?_) (fun cdv A outer s H vs Q E hr h => ?_)
 ·obtain ⟨p, A', S, n0, rfl, _⟩ := h
  rfl
 ·obtain ⟨p, A', S, n0, rfl, hh, hn, hcl, few, k⟩ := h
  have hu := Q0 hr
  refine ⟨_, (Qe (QH (Qz (pv 0) T.cl m1_ G1_ hr (b1_ [] (by simp)) .nil Qp (Qa (pv 1) Qf)))
   (Qe (QD (i := 2) QaF.nd rfl (Or.inl rfl) (ZY (Qa (pv 1) Qf)))
   (Qe (QD (i := 3) QaF.nd rfl (Or.inl rfl) (QjE (QiH (pv 1) QaQ QjB) rfl rfl (by intro z; cases z) (by decide)))
   (Qe (QD (i := 4) QaF.nd rfl (Or.inl rfl) Qi)
   (Qe (Qgy PassesOwn.never (QS QgZ (pv 4) (Qv Qs (by rfl) T.g_len PySem.boot_len (Qa (pv 2) Qf)) (Zg _))
   (Qe (QD (i := 5) QaF.nd rfl (Or.inl rfl) (QX QY (pv 2) (pv 4) (fun _ _ => rfl)))
   (Qe (ZX PassesOwn.never rfl (Z5 (Qm J2_ hr (by rfl) n2_ k2_ (c2_ [] (by simp)) .nil Qp (Qa (pv 0) (Qa (pv 5) Qf)))) (ZH (i := 6) QaF.nd rfl (Or.inl rfl))
   (Qh (Ze (Qdp (Qft hu (pv 6) (pv 3))) (Qe (QaG hu (pv 3) (pv 6) QaQ rfl)
   (Qh (QH (Qfs PySem.F.plainAttrs_list PySem.F.slot_list_append PySem.F.type_list_append QaH (pv 2) (Qa (pv 6) Qf))))) QA)))
   (Qh (ps_aug (i := 4) QaF.nd rfl (Or.inl rfl) Qi ip_add)))))
   (Qh (Qu (pv 2)))))))), ?_⟩
  have hin : ∀ j, ∀ y ∈ wk (Zh S.boxes) n0 j, y ∈ names S := Qev hn (hcl.succ hh.nm)
  have hle : ∀ j, (wk (Zh S.boxes) n0 j).length ≤ S.boxes.length := fun j => by have := Qhi hn (hcl.succ hh.nm) j; unfold names at this; rwa [List.length_map] at this
  refine ⟨_, rfl, p, A'.dx, _, rfl, hh.ob, Qx (by decide +kernel), _, rfl, p, A', S, n0, rfl, hh, hn, ?_⟩
  refine ⟨_, rfl, by show 1 ≤ sizeLine; decide, fun l hl => ?_⟩
  refine fun d hd => ?_
  refine ⟨_, rfl, Qb, [(Sum.inl n0, .bl true)], rfl, by show 1 ≤ 15; decide, ?_⟩
  have hd0 : H d = none := Qau hd
  have ld : l ≠ d := Qd Qb hd
  refine Qgg (fun σ H' => ∃ (j : Nat) (v5 v6 : Option V), σ = [some (.ref p), some (.int n0), some (.ref l), some (.ref d), some (.int j), v5, v6] ∧ Same H H' ∧ H' l = some (.lst ((wk (Zh S.boxes) n0 j).map V.int)) ∧ H' d = some (.dK (Qck (wk (Zh S.boxes) n0 j))) ∧ j ≤ (wk (Zh S.boxes) n0 j).length) (fun σ _ => walkMu σ) ?_ ?_ ?_
  ·refine ⟨0, none, none, rfl, fun x o e => ?_, ?_, Qb, Nat.zero_le _⟩
   ·rw [Qg (Qd e hd0), Qg (Qd e hd0), Qg (Qd e hl)]; exact e
   ·rw [Qg ld, Qg ld]; exact Qb
  ·rintro σ H1 ⟨j, v5, v6, rfl, s1, hl1, hd1, hj⟩
   refine ⟨_, rfl, _, rfl, l, _, rfl, .inl (SqL.of hl1), _, _, rfl, rfl, _, rfl, Qg6 (fun h => ?_) (fun h => ?_)⟩
   ·have h : (j : Int) < (((wk (Zh S.boxes) n0 j).map V.int).length : Int) := of_decide_eq_true h
    rw [List.length_map] at h
    have hjl : j < (wk (Zh S.boxes) n0 j).length := by omega
    obtain ⟨c, hc⟩ : ∃ c, (wk (Zh S.boxes) n0 j)[j]? = some c := ⟨_, List.getElem?_eq_getElem hjl⟩
    obtain ⟨i, b, hb, rfl⟩ := QfF (hin j c (List.mem_of_getElem? hc))
    have ew := Qbd hc
    rw [Qbz hh.nm hb] at ew
    have hrow := (hcl b (List.mem_of_getElem? hb)).1
    refine ⟨_, rfl, _, rfl, l, _, j, .int b.name, rfl, rfl, SqL.of hl1, ZI (by rw [List.getElem?_map, hc]; rfl), ?_⟩
    refine ⟨_, rfl, _, rfl, p, A', S, i, b, rfl, hh.same s1, hb, hrow, fun lb H2 s2 hlb hL => ⟨lb, rfl, ⟨_, SqL.of hL⟩, ?_⟩⟩
    have bl : lb ≠ l := (Qd hl1 hlb).symm
    have bd : lb ≠ d := (Qd hd1 hlb).symm
    have lenA : ∀ i', (QcO (wk (Zh S.boxes) n0 j) ((Qt b.row).take i')).length ≤ S.boxes.length := fun i' => by
     have h1 : (QcO (wk (Zh S.boxes) n0 j) ((Qt b.row).take i')).Nodup := QdU _ (QgQ _ _ _)
     have h2 := Qbr h1 (m := names S) fun y hy => by
      rcases Qcs _ hy with z | z
      ·exact hin j y z
      ·exact (hcl b (List.mem_of_getElem? hb)).2 y (Z6.mp (List.mem_of_mem_take z))
     unfold names at h2; rwa [List.length_map] at h2
    refine Qax (K := K) (xs := (Qt b.row).map V.int) (fun i' σ H' => ∃ (v6 : Option V), σ = [some (.ref p), some (.int n0), some (.ref l), some (.ref d), some (.int j), some (.int b.name), v6] ∧ Same H H' ∧ H' l = some (.lst ((QcO (wk (Zh S.boxes) n0 j) ((Qt b.row).take i')).map V.int)) ∧ H' d = some (.dK (Qck (QcO (wk (Zh S.boxes) n0 j) ((Qt b.row).take i')))) ∧ H' lb = some (.lst ((Qt b.row).map V.int))) ?_ ?_ ?_ ?_
    ·exact ⟨_, rfl, s1.trans s2, s2 _ _ hl1, s2 _ _ hd1, hL⟩
    ·rintro i' σ H3 _ ⟨_, rfl, _, _, _, h3⟩
     exact SqL.of h3
    ·rintro i' y σ H3 hy ⟨v6, rfl, s3, hl3, hd3, hb3⟩
     obtain ⟨m, hm, rfl⟩ : ∃ m, (Qt b.row)[i']? = some m ∧ y = .int m := by
      rw [List.getElem?_map] at hy
      cases e : (Qt b.row)[i']? with
      | none => rw [e] at hy; cases hy
      | some m => rw [e] at hy; exact ⟨m, rfl, (Option.some.inj hy).symm⟩
     refine ⟨_, rfl, _, rfl, d, _, rfl, DGet.k (k := Sum.inl m) hd3, _, rfl, ?_⟩
     rw [QfA, ZL hm, QfQ]
     have hlen := lenA i'
     generalize QcO (wk (Zh S.boxes) n0 j) ((Qt b.row).take i') = L at hl3 hd3 hlen ⊢
     by_cases hmL : m ∈ L
     ·rw [if_pos hmL, decide_eq_true hmL]
      exact Qbc ⟨_, rfl, s3, hl3, hd3, hb3⟩
     ·rw [if_neg hmL, decide_eq_false hmL]
      refine Qcm ⟨_, rfl, _, rfl, d, _, rfl, DPut.k (k := Sum.inl m) hd3 (by rw [Qck, List.length_map]; exact QP (by omega)), ?_⟩
      rw [Qh5 hmL]
      have hl4 : (upd H3 d (.dK (Qck (L ++ [m])))) l = some (.lst (L.map V.int)) := by rw [Qg ld]; exact hl3
      refine ⟨_, rfl, .inl ⟨rfl, _, SqL.of hl4⟩, _, rfl, l, _, _, rfl, rfl, hl4, by rw [List.length_map]; exact QP (by omega), ?_⟩
      refine ⟨_, rfl, fun x o e => ?_, ?_, ?_, ?_⟩
      ·rw [Qg (Qd e hl), Qg (Qd e hd0)]; exact s3 _ _ e
      ·rw [Qb, List.map_append]; rfl
      ·rw [Qg ld.symm]; exact Qb
      ·rw [Qg bl, Qg bd]; exact hb3
    ·rintro σ H3 ⟨v6, rfl, s3, hl3, hd3, hb3⟩
     rw [List.length_map, List.take_length, ← ew] at hl3 hd3
     refine ⟨_, rfl, j, 1, rfl, rfl, ⟨j + 1, _, _, rfl, s3, hl3, hd3, ?_⟩, ?_⟩
     ·obtain ⟨ys, e⟩ := QbG (Qt b.row) (wk (Zh S.boxes) n0 j)
      rw [ew, e, List.length_append]; omega
     ·have := hle j
      show (901 - ((j : Int) + 1)).toNat < (901 - (j : Int)).toNat
      omega
   ·have h : ¬ (j : Int) < (((wk (Zh S.boxes) n0 j).map V.int).length : Int) := fun z => h (decide_eq_true z)
    rw [List.length_map] at h
    have e : (wk (Zh S.boxes) n0 j).length = j := by omega
    refine ⟨_, rfl, k l H1 s1 hl ?_⟩
    rw [hl1]
    unfold Qq
    rw [Qi3 e (m := S.boxes.length) (by have := hle j; omega)]
  ·intro σ H1 Q1 Q2 hQ h
   obtain ⟨v, e1, v2, e2, y1, y2, e6, e7, z1, z2, e8, e9, z3, e10, z⟩ := h
   exact ⟨v, e1, v2, e2, y1, y2, e6, e7, z1, z2, e8, e9, z3, e10, hQ _ _ z⟩
end
end LW
namespace LW
open PySem L2
section
variable {P : Program} {w : World} {K : PySem.W.Frag} {mg : Str → Option Value} {base : Heap} {C : Addr}
def Qjl : St → Nat
 | [_, _, _, some (.int k), _] => (901 - k).toNat
 | _ => 0
theorem QeN {n : Nat} {f : Addr} {fd : FuncData} (F : Fun K "_law_walk" "_law_walk" Z9 f fd) (T : TX K mg C) (D1_ : DefOk P w K mg base n "_law_boxes" ["things"] (QhF) [[]]) :
  FnOk P w K mg base CX0 (n + 1) f fd ["rows", "name"] (QfV) := by
 obtain ⟨f1_, fd1_, n1_, k1_, J1_, c1_⟩ := D1_
 refine F.ok Qaf (fun vs H Q E h => ?_) (fun cdv A outer s H vs Q E hr h => ?_)
 ·obtain ⟨ar, bs, fl, n0, rfl, _⟩ := h
  rfl
 ·obtain ⟨ar, bs, fl, n0, rfl, ⟨hR, pf⟩, nd, hn, hcl, few, k⟩ := h
  have hu := Q0 hr
  refine ⟨_, (Qe (QD (i := 2) Qaf.nd rfl (Or.inl rfl) (ZY (Qa (pv 1) Qf)))
   (Qe (QD (i := 3) Qaf.nd rfl (Or.inl rfl) Qi)
   (Qe (Qgy PassesOwn.never (QS QgZ (pv 3) (Qv Qs (by rfl) T.g_len PySem.boot_len (Qa (pv 2) Qf)) (Zg _))
   (Qe (ZX PassesOwn.never rfl (Z5 (Qm J1_ hr (by rfl) n1_ k1_ (c1_ [] (by simp)) .nil Qp (Qa (Zu hu (pv 0) (QX QY (pv 2) (pv 3) (fun _ _ => rfl)) (fun _ _ => rfl)) Qf))) (ZH (i := 4) Qaf.nd rfl (Or.inl rfl))
   (Qh (Ze (QS QcG (pv 4) (pv 2) rfl) (Qh (QH (Qfs PySem.F.plainAttrs_list PySem.F.slot_list_append PySem.F.type_list_append QaH (pv 2) (Qa (pv 4) Qf)))) QA)))
   (Qh (QD (i := 3) Qaf.nd rfl (Or.inl rfl) (QC Zo (pv 3) Qi)))))
   (Qh (Qu (pv 2)))))), ?_⟩
  have hin : ∀ j, ∀ y ∈ wk (Zh bs) n0 j, y ∈ bs.map (·.name) := Qev hn (hcl.succ nd)
  have hle : ∀ j, (wk (Zh bs) n0 j).length ≤ bs.length := fun j => by have := Qhi hn (hcl.succ nd) j; rwa [List.length_map] at this
  refine ⟨_, rfl, by show 1 ≤ sizeLine; decide, fun l hl => ?_⟩
  refine Qgg (fun σ H' => ∃ (j : Nat) (v4 : Option V), σ = [some (.ref ar), some (.int n0), some (.ref l), some (.int j), v4] ∧ Same H H' ∧ H' l = some (.lst ((wk (Zh bs) n0 j).map V.int)) ∧ j ≤ (wk (Zh bs) n0 j).length) (fun σ _ => Qjl σ) ?_ ?_ ?_
  ·exact ⟨0, none, rfl, Same.new hl, Qb, Nat.zero_le _⟩
  ·rintro σ H1 ⟨j, v4, rfl, s1, hl1, hj⟩
   refine ⟨_, rfl, _, rfl, l, _, rfl, .inl (SqL.of hl1), _, _, rfl, rfl, _, rfl, Qg6 (fun h => ?_) (fun h => ?_)⟩
   ·have h : (j : Int) < (((wk (Zh bs) n0 j).map V.int).length : Int) := of_decide_eq_true h
    rw [List.length_map] at h
    have hjl : j < (wk (Zh bs) n0 j).length := by omega
    obtain ⟨c, hc⟩ : ∃ c, (wk (Zh bs) n0 j)[j]? = some c := ⟨_, List.getElem?_eq_getElem hjl⟩
    obtain ⟨b, hbm, rfl⟩ := List.mem_map.mp (hin j c (List.mem_of_getElem? hc))
    obtain ⟨i, hb⟩ := List.getElem?_of_mem hbm
    have ew := Qbd hc
    rw [Qbz nd hb] at ew
    have hrow := (hcl b (List.mem_of_getElem? hb)).1
    obtain ⟨a, ha, hta⟩ := ZK pf hb
    have hg : DGet H1 ar (.int b.name) (some (.ref a)) := by rw [← rowAt (QB pf) nd hb ha]; exact DGet.k (k := Sum.inl b.name) (s1 _ _ hR)
    refine ⟨_, rfl, _, rfl, _, rfl, l, _, j, .int b.name, rfl, rfl, SqL.of hl1, ZI (by rw [List.getElem?_map, hc]; rfl), ar, .ref a, rfl, hg, ?_⟩
    have hta1 : ThL H1 b.row a := by obtain ⟨vs, z1, z2⟩ := hta; exact ⟨vs, s1 _ _ z1, Ths.keep (Tups.of_same s1) z2⟩
    refine ⟨a, b.row, rfl, hta1, hrow, fun lb H2 s2 hlb hL => ⟨lb, rfl, ⟨_, SqL.of hL⟩, ?_⟩⟩
    have bl : lb ≠ l := (Qd hl1 hlb).symm
    have lenA : ∀ i', (QcO (wk (Zh bs) n0 j) ((Qt b.row).take i')).length ≤ bs.length := fun i' => by
     have h1 : (QcO (wk (Zh bs) n0 j) ((Qt b.row).take i')).Nodup := QdU _ (QgQ _ _ _)
     have h2 := Qbr h1 (m := bs.map (·.name)) fun y hy => by
      rcases Qcs _ hy with z | z
      ·exact hin j y z
      ·exact (hcl b (List.mem_of_getElem? hb)).2 y (Z6.mp (List.mem_of_mem_take z))
     rwa [List.length_map] at h2
    refine Qax (K := K) (xs := (Qt b.row).map V.int) (fun i' σ H' => ∃ (v4 : Option V), σ = [some (.ref ar), some (.int n0), some (.ref l), some (.int j), v4] ∧ Same H H' ∧ H' l = some (.lst ((QcO (wk (Zh bs) n0 j) ((Qt b.row).take i')).map V.int)) ∧ H' lb = some (.lst ((Qt b.row).map V.int))) ?_ ?_ ?_ ?_
    ·exact ⟨_, rfl, s1.trans s2, s2 _ _ hl1, hL⟩
    ·rintro i' σ H3 _ ⟨_, rfl, _, _, h3⟩
     exact SqL.of h3
    ·rintro i' y σ H3 hy ⟨v6, rfl, s3, hl3, hb3⟩
     obtain ⟨m, hm, rfl⟩ : ∃ m, (Qt b.row)[i']? = some m ∧ y = .int m := by
      rw [List.getElem?_map] at hy
      cases e : (Qt b.row)[i']? with
      | none => rw [e] at hy; cases hy
      | some m => rw [e] at hy; exact ⟨m, rfl, (Option.some.inj hy).symm⟩
     rw [ZL hm, QfQ]
     have hlen := lenA i'
     generalize QcO (wk (Zh bs) n0 j) ((Qt b.row).take i') = L at hl3 hlen ⊢
     refine ⟨_, rfl, _, rfl, l, _, rfl, .inl (SqL.of hl3), rfl, QdM L, _, rfl, ?_⟩
     show if (!inV (.int m) (L.map V.int)) = true then _ else _
     rw [Qe1]
     by_cases hmL : m ∈ L
     ·rw [if_pos hmL, decide_eq_true hmL]
      exact Qbc ⟨_, rfl, s3, hl3, hb3⟩
     ·rw [if_neg hmL, decide_eq_false hmL]
      refine Qcm ⟨_, rfl, .inl ⟨rfl, _, SqL.of hl3⟩, _, rfl, l, _, _, rfl, rfl, hl3, by rw [List.length_map]; exact QP (by omega), ?_⟩
      refine ⟨_, rfl, fun x o e => ?_, ?_, ?_⟩
      ·rw [Qg (Qd e hl)]; exact s3 _ _ e
      ·rw [Qb, List.map_append]; rfl
      ·rw [Qg bl]; exact hb3
    ·rintro σ H3 ⟨v6, rfl, s3, hl3, hb3⟩
     rw [List.length_map, List.take_length, ← ew] at hl3
     refine ⟨_, rfl, j, 1, rfl, rfl, ⟨j + 1, _, rfl, s3, hl3, ?_⟩, ?_⟩
     ·obtain ⟨ys, e⟩ := QbG (Qt b.row) (wk (Zh bs) n0 j)
      rw [ew, e, List.length_append]; omega
     ·have := hle j
      show (901 - ((j : Int) + 1)).toNat < (901 - (j : Int)).toNat
      omega
   ·have h : ¬ (j : Int) < (((wk (Zh bs) n0 j).map V.int).length : Int) := fun z => h (decide_eq_true z)
    rw [List.length_map] at h
    have e : (wk (Zh bs) n0 j).length = j := by omega
    refine ⟨_, rfl, k l H1 s1 hl ?_⟩
    rw [hl1]
    unfold Qq
    rw [Qi3 e (m := bs.length) (by have := hle j; omega)]
  ·intro σ H1 Q1 Q2 hQ h
   obtain ⟨v, e1, v2, e2, y1, y2, e6, e7, z1, z2, e8, e9, z3, e10, z⟩ := h
   exact ⟨v, e1, v2, e2, y1, y2, e6, e7, z1, z2, e8, e9, z3, e10, hQ _ _ z⟩
end
end LW
namespace PySem
open Sem (wp)
namespace F
theorem plain_dict_loop : plainId "dict.update.loop" = true := by decide +kernel
theorem entry_dict_loop : entryFor table "dict.update.loop" = some Builtin.«dict.update.loop» := entryFor_of_fast (by kernel_rfl)
end F
theorem Qfz : typeLookup (.type "list") "keys" = pure none := by rw [typeLookup_type, builtinLookup_eq_fast]; kernel_rfl
theorem Qh6 {prog : Program} {w : World} {A : Around} {E : Value → Shared → Prop} {s : Shared} {a : Addr} {xs : Array Value} {k : Nat} {Q : Option Value → Shared → Prop}
  (hx : s.heap.get? a = some { cls := .type "list", dict := none, data := .seq xs k, slots := #[] }) (hA : A.handled = none)
  (h : ∀ h' tk, (∀ b o, s.heap.get? b = some o → h'.get? b = some o) → Q none { s with heap := h', toks := tk }) : wpAny (model prog w) A (getAttr? (.ref a) "keys") Q E s := by
 obtain ⟨hp, g, d, tk, os⟩ := s
 have hT : ∀ tk', (⟨hp, g, d, tk', os⟩ : Shared).TypeIs (.ref a) "list" := fun _ => ⟨_, hx, rfl⟩
 have f1 := sub_AttributeError
 have f3 := F.slot_list_getattribute.lookup
 have f4 := F.slot_list_getattribute.bind (.ref a)
 have f5 := am_list_getattr_none
 unfold getAttr? getAttrBy? getAttrBy
 repeat (any_goals (first | assumption | exact hT _ | ((with_reducible show wpAny _ _ (call (Value.builtin "list.__getattribute__") _ _) _ _ _); refine call_meets F.slot_list_getattribute (hT _) am_entry_list_getattribute (F.args_list_getattribute_2 _ _) (meets_getattribute_miss_list a xs k #[] "keys" _ Qfz (by decide) (by decide)) ⟨hx, hA, fun h' tk' e hx' => ?_⟩) | wp_step))
 obtain ⟨t', u', he⟩ := hx'.there
 show wpAny _ _ (getattributeRaised _ _ _ _ _ _ _) _ _ _
 unfold getattributeRaised
 have hTe : ∀ tk'', (⟨h', g, d, tk'', os⟩ : Shared).TypeIs (.ref e) "AttributeError" := fun _ => ⟨_, he, rfl⟩
 repeat (any_goals (first | assumption | exact hTe _ | wp_step))
 all_goals exact h _ _ hx'.keeps
section
variable {prog : Program} {w : World} {K : Type} [DecidableEq K] {knd : KeyKind prog w K} {A : Around} {R : Result → Shared → Prop} {d I l : Addr} {its : Array Value} {ps : List (K × Value)} {res : Value} {h0 : Heap}
theorem Qej (hA : A.in1.handled = none) (hdI : d ≠ I) (hdl : d ≠ l) (hlI : l ≠ I) (hsz : its.size = ps.length) (hl : h0.IsList l its) (hfew : ps.length ≤ sizeLine)
  (hP : ∀ (j : Nat) (kv : K × Value), ps[j]? = some kv → ∃ (T : Addr) (key : Value), its[j]? = some (.ref T) ∧ T ≠ d ∧ T ≠ I ∧ knd.is kv.1 key = true ∧ h0.IsTuple T #[key, kv.2]) :
  ∀ (k i : Nat) (s : Shared), ps.length - i = k → i ≤ ps.length → s.heap.IsListIter I l i → (∀ b o, b ≠ d → b ≠ I → h0.get? b = some o → s.heap.get? b = some o) → s.heap.DictOf knd d (merged [] (ps.take i)) →
   (∀ h' tk, h'.DictOf knd d (merged [] ps) → (∀ b o, b ≠ d → b ≠ I → s.heap.get? b = some o → h'.get? b = some o) → R (.ok (.ret res)) { s with heap := h', toks := tk }) →
   codeAny (model prog w) A (.builtin "dict.update.loop" ⟨[.ref d, .ref I, rawInt i, res], []⟩) R s := by
 intro k
 induction k with
 | zero =>
  intro i s hk hi hit kp hd hR
  obtain rfl : i = ps.length := by omega
  refine codeAny_builtin F.entry_dict_loop ?_
  rw [Around.under_plainId F.plain_dict_loop _]
  show wpAny _ A.in1 (pyNext (.ref I) >>= _) _ _ s
  refine wpAny_bind (wpAny_pyNext_list_end hA hit (hl.at fun o e => kp l o hdl.symm hlI e) (by simp [← hsz]) fun h' he' => ?_)
  rw [List.take_length] at hd
  exact wpAny_bind (wpAny_pure (wpAny_pure (hR h' s.toks (hd.extBut he' hdI) fun b o n1 n2 e => he' b o n2 e)))
 | succ k ih =>
  intro i s hk hi hit kp hd hR
  have hlt : i < ps.length := by omega
  obtain ⟨kv, hkv⟩ : ∃ kv, ps[i]? = some kv := ⟨_, List.getElem?_eq_getElem hlt⟩
  obtain ⟨T, key, hT, nTd, nTI, hkey, htup⟩ := hP i kv hkv
  refine codeAny_builtin F.entry_dict_loop ?_
  rw [Around.under_plainId F.plain_dict_loop _]
  show wpAny _ A.in1 (pyNext (.ref I) >>= _) _ _ s
  refine wpAny_bind (wpAny_pyNext_list_item hit (hl.at fun o e => kp l o hdl.symm hlI e) hT fun h' hit' hs' => ?_)
  have htup' : h'.IsTuple T #[key, kv.2] := (htup.at fun o e => kp T o nTd nTI e).extBut hs'.extBut nTI
  have hd' : h'.DictOf knd d (merged [] (ps.take i)) := hd.extBut hs'.extBut hdI
  show wpAny _ A.in1 (holding [Value.ref T] _ >>= _) _ _ _
  refine wpAny_bind (wpAny_holding ?_)
  have hTt : (Shared.mk h' s.gens s.drawn s.toks s.os).TypeIs (.ref T) "tuple" := htup'.typeIs
  refine wpAny_bind ?_
  have go : wpAny (model prog w) A.in1 (Builtin.Dict.pairItems (Value.ref T)) (fun a s' => a = [key, kv.2] ∧ s' = { s with heap := h' }) (fun _ _ => False) { s with heap := h' } := by
   unfold Builtin.Dict.pairItems
   obtain ⟨o, ho, hc, n, hdt⟩ := htup'
   refine wpAny_bind (wpAny_typeOf hTt ?_)
   simp only [show (Value.type "tuple" == Value.type "list" || Value.type "tuple" == Value.type "tuple") = true by decide, if_true]
   refine wpAny_bind (wpAny_seqItems ho hdt ?_)
   exact wpAny_pure ⟨rfl, rfl⟩
  refine wpAny_tryCatch (wpAny_mono go (fun a s' z => ?_) fun _ _ z => False.elim z)
  obtain ⟨rfl, rfl⟩ := z
  show wpAny _ A.in1 (holding [key, kv.2] (dictSet d key kv.2)) _ _ _
  refine wpAny_holding (wpAny_dictSet_pairs hkey hd' (fun h'' hd'' hs'' => ?_) ?_)
  ·have e : stored (merged [] (ps.take i)) kv.1 kv.2 = merged [] (ps.take (i + 1)) := (merged_take_succ [] ps i kv hkv).symm
   rw [e] at hd''
   refine wpAny_pure ⟨plainId_quiet F.plain_dict_loop _, ?_⟩
   show codeAny (model prog w) A (.builtin "dict.update.loop" ⟨[.ref d, .ref I, rawInt ((i + 1 : Nat) : Int), res], []⟩) R _
   refine ih (i + 1) _ (by omega) hlt (hit'.at fun o e => hs''.extBut I o hdI.symm e) (fun b o n1 n2 e => hs''.extBut b o n1 (hs'.extBut b o n2 (kp b o n1 n2 e))) hd'' fun h3 tk hd3 k3 => ?_
   exact hR h3 tk hd3 fun b o n1 n2 e => k3 b o n1 n2 (hs''.extBut b o n1 (hs'.extBut b o n2 e))
  ·have := merged_length_le ([] : List (K × Value)) (ps.take i)
   rw [List.length_take] at this
   simp only [List.length_nil] at this
   omega
theorem QdP {E : Value → Shared → Prop} {s : Shared} {c : Nat} {Q : Value → Shared → Prop} (hA : A.handled = none) (hl : s.heap.get? l = some { cls := .type "list", dict := none, data := .seq its c, slots := #[] }) (hsz : its.size = ps.length) (hfew : ps.length ≤ sizeLine) (hn : (ps.map (·.1)).Nodup)
  (hP : ∀ (j : Nat) (kv : K × Value), ps[j]? = some kv → ∃ (T : Addr) (key : Value), its[j]? = some (.ref T) ∧ knd.is kv.1 key = true ∧ s.heap.IsTuple T #[key, kv.2])
  (h : ∀ h' tk, h'.DictOf knd s.heap.objs.size ps → (∀ b o, s.heap.get? b = some o → h'.get? b = some o) → Q (.ref s.heap.objs.size) { s with heap := h', toks := tk }) :
  wpAny (model prog w) A (call (.type "dict") [.ref l]) Q E s := by
 refine callType_codes (Q₁ := fun obj s₁ => obj = .ref s.heap.objs.size ∧ s₁ = { s with heap := s.heap.push { cls := .type "dict", data := .dict #[] } }) F.kt_called_dict (F.kt_typeCall_dict_1 _) F.entry_dict_init (kt_code_dict_new _ ⟨rfl, rfl⟩) ?_
 rintro obj s₁ ⟨rfl, rfl⟩
 have hnew : (s.heap.push { cls := .type "dict", data := .dict #[] }).DictOf knd s.heap.objs.size [] := Heap.DictOf.new s.heap
 refine ⟨hnew.typeIs, F.args_dict_init_2 _ _, ?_⟩
 unfold Builtin.«dict.__init__»
 refine wpAny_bind ?_
 unfold Builtin.Dict.selfAndRest
 refine wpAny_bind (wpAny_notOrdered_dict hnew.typeIs ?_)
 show wpAny _ _ (pure (s.heap.objs.size, [Value.ref l])) _ _ _
 refine wpAny_pure ?_
 show wpAny _ _ (Builtin.Dict.updateFrom "dict.__init__" s.heap.objs.size (.ref l) [] .none) _ _ _
 unfold Builtin.Dict.updateFrom
 have hT1 : (Shared.mk (s.heap.push { cls := .type "dict", data := .dict #[] }) s.gens s.drawn s.toks s.os).TypeIs (.ref l) "list" := ⟨_, Heap.get?_push_of_some _ hl, rfl⟩
 refine wpAny_bind (wpAny_typeOf hT1 ?_)
 rw [if_pos (by decide)]
 refine wpAny_bind (Qh6 (s := { s with heap := s.heap.push { cls := .type "dict", data := .dict #[] } }) (Heap.get?_push_of_some _ hl) (show A.in1.in1.handled = none from hA) fun h1 tk1 k1 => ?_)
 rw [if_pos (show (none : Option Value).isNone = true from rfl)]
 refine wpAny_bind (wpAny_rule ?_)
 have hl1 : h1.IsList l its := ⟨_, k1 _ _ (Heap.get?_push_of_some _ hl), rfl, _, rfl⟩
 refine wpAny_bind (wpAny_pyIter_list (s := { s with heap := h1, toks := tk1 }) hl1 ?_)
 refine wpAny_pure ⟨plainId_quiet F.plain_dict_loop _, ?_⟩
 have hd1 : h1.DictOf knd s.heap.objs.size [] := hnew.keep k1
 have kp1 : ∀ b o, s.heap.get? b = some o → h1.get? b = some o := fun b o e => k1 b o (Heap.get?_push_of_some _ e)
 have lt : ∀ b o, s.heap.get? b = some o → b < s.heap.objs.size := fun b o e => Heap.lt_size e
 have hds : s.heap.objs.size < h1.objs.size := by obtain ⟨o, _, _, ho, _⟩ := hd1; exact Heap.lt_size ho
 have hll : l < s.heap.objs.size := lt _ _ hl
 refine Qej (A := A.in1) (h0 := h1.push { cls := .type "list_iterator", data := .fields #[.ref l, .int 0 0] }) (show A.in1.in1.handled = none from hA) (Nat.ne_of_lt hds) (Nat.ne_of_gt hll) (Nat.ne_of_lt (Nat.lt_trans hll hds)) hsz (hl1.at fun o e => Heap.get?_push_of_some _ e) hfew (fun j kv hj => ?_) ps.length 0 _ rfl (Nat.zero_le _) ⟨_, Heap.get?_push_size _ rfl, rfl, rfl⟩ (fun b o _ _ e => e) (hd1.push _) fun h' tk hd' k' => ?_
 ·obtain ⟨T, key, e1, e2, e3⟩ := hP j kv hj
  have hTl : T < s.heap.objs.size := by obtain ⟨o, ho, _⟩ := id e3; exact lt _ _ ho
  exact ⟨T, key, e1, Nat.ne_of_lt hTl, Nat.ne_of_lt (Nat.lt_trans hTl hds), e2, e3.at fun o e => Heap.get?_push_of_some _ (kp1 _ _ e)⟩
 ·rw [merged_nil_of_nodup ps hn] at hd'
  refine ⟨rfl, h h' tk hd' fun b o e => ?_⟩
  have := lt b o e
  exact k' b o (Nat.ne_of_lt this) (Nat.ne_of_lt (Nat.lt_trans this hds)) (Heap.get?_push_of_some _ (kp1 b o e))
end
end PySem
namespace L2
open PySem PySem.Spec PyProof.Rows PySem.W
theorem Qgi : ∀ {as : List Addr} {its : List Value}, Vals (as.map V.ref) its → its = as.map Value.ref
 | [], _, .nil => rfl
 | _ :: _, _, .cons r t => by rw [Qgi t]; cases r; rfl
section
variable {X : Cx} {pins : List (Addr × Obj)} {σ : St} {H : Hp} {s : Shared}
theorem QgE (I : Inv X pins σ H s) : ∀ {kvs : List (Key × V)} {as : List Addr}, Paired (fun (kv : Key × V) (a : Addr) => H a = some (.tup [kV kv.1, kv.2])) kvs as →
  ∃ ps : List (Key × Value), KV kvs ps ∧ ∀ (j : Nat) (kv : Key × Value), ps[j]? = some kv → ∃ (T : Addr) (key : Value), as[j]? = some T ∧ (Zf X.prog X.w).is kv.1 key = true ∧ s.heap.IsTuple T #[key, kv.2]
 | _, _, .nil => ⟨[], .nil, fun j kv h => by simp at h⟩
 | _, _, .cons (a := kv) (b := a) h t => by
  obtain ⟨ps, r, f⟩ := QgE I t
  obtain ⟨its, r1, p1, _⟩ := I.tuple (SqT.of h)
  obtain ⟨u, w', rfl, ru, rw'⟩ := QiA r1
  refine ⟨(kv.1, w') :: ps, .cons ⟨rfl, rw'⟩ r, fun j kv' hj => ?_⟩
  cases j with
  | zero =>
   have hj : (kv.1, w') = kv' := by simpa using hj
   subst hj
   exact ⟨a, u, rfl, Qga ru, p1⟩
  | succ j =>
   obtain ⟨T, key, e1, e2, e3⟩ := f j kv' (by simpa using hj)
   exact ⟨T, key, by simpa using e1, e2, e3⟩
theorem Qhb (hA : X.A.handled = none) : Qc4 X (.type "dict") (fun xs H Q => ∃ (l : Addr) (as : List Addr) (kvs : List (Key × V)), xs = [.ref l] ∧ H l = some (.lst (as.map V.ref)) ∧ Paired (fun (kv : Key × V) (a : Addr) => H a = some (.tup [kV kv.1, kv.2])) kvs as ∧ (kvs.map (·.1)).Nodup ∧ ∀ d, H d = none → Q (.ref d) (upd H d (.dK kvs))) := by
 intro pins s σ H xs us Q I r h
 obtain ⟨l, as, kvs, rfl, hl, pr, nd, q⟩ := h
 obtain ⟨u, rfl, rx⟩ := Qey r
 cases rx
 obtain ⟨z, its, c, r', hl', e⟩ := I.lstM hl
 obtain rfl := Qgi r'
 obtain ⟨ps, rel, f⟩ := QgE I pr
 have l1 : kvs.length = ps.length := Paired.length rel
 have l2 : kvs.length = as.length := Paired.length pr
 have lz : ps.length ≤ sizeLine := by rw [List.length_map] at z; omega
 have nd' : (ps.map (·.1)).Nodup := by
  have : ∀ {kvs : List (Key × V)} {ps : List (Key × Value)}, KV kvs ps → ps.map (·.1) = kvs.map (·.1) := fun rel => by
   induction rel with
   | nil => rfl
   | cons h t ih => simp only [List.map_cons]; rw [ih, h.1]
  rw [this rel]; exact nd
 refine QdP (knd := Zf X.prog X.w) (ps := ps) hA e (by simp; omega) lz nd' (fun j kv hj => ?_) fun h' tk hd kp => ?_
 ·obtain ⟨T, key, e1, e2, e3⟩ := f j kv hj
  exact ⟨T, key, by simp [e1], e2, e3⟩
 ·exact ⟨.ref s.heap.objs.size, _, I.laid (t' := tk) kp (Nat.le_refl _) (Qil (by omega) (beq_eq_false_iff_ne.mpr (Ne.symm (Nat.ne_of_lt I.big))) rel hd), rfl, q _ (I.hok.fresh (Nat.le_refl _))⟩
end
end L2
namespace L2
open PySem PySem.Spec PyProof.Rows
structure QaK (osc : Scope) (oN : List Str) (sc : Scope) (x y : Str) (N : List Str) (fr : List Nat) : Prop where
 kind : sc.kind = .function
 nocell : ∀ z ∈ sc.names, z.2 ≠ .cell
 names : ∀ z ∈ sc.names, z.2 = .local → sc.names.lookup z.1 = some .local
 free : ∀ z ∈ sc.names, z.2 = .free → osc.names.lookup z.1 = some .cell
 xl : sc.names.lookup x = some .local
 yl : sc.names.lookup y = some .local
 nd : (x :: y :: N).Nodup
 ix : fr.map (fun i => oN[i]?) = N.map some
 fk : ∀ z ∈ N, sc.names.lookup z = some .free
section
variable {X : Cx} {pins : List (Addr × Obj)} {σ : St} {H : Hp} {s : Shared} {sc : Scope} {x yy : Str} {N : List Str} {fr : List Nat} {C : Addr} {ex : List Addr}
theorem Inv.cells2 (I : Inv X pins σ H s) (S : QaK X.env.scope X.N sc x yy N fr) : Qct X.env sc.names := fun y hy hk => I.ok.has y.1 (.inl (S.free y hy hk))
theorem Inv.clos2 (I : Inv X pins σ H s) (S : QaK X.env.scope X.N sc x yy N fr) {y : Str} {c : Addr} (h : (QbT X.env sc.names []).lookup y = some c) : X.env.cells.lookup y = some c := by
 rcases QdO (I.cells2 S) h with q | q
 ·exact q
 ·simp at q
theorem QjY (I : Inv X pins σ H s) (S : QaK X.env.scope X.N sc x yy N fr) (hC : s.heap.objs.size ≤ C) (hf : ∀ b ∈ ex, Qe8 X pins H b) (hlt : ∀ b ∈ ex, b < s.heap.objs.size) : (blk X sc (x :: yy :: N) C ex s H).Ok where
 mod := I.ok.mod
 kind := S.kind
 glob := I.ok.glob
 blt := I.ok.blt
 above := hC
 inj := fun a b c h1 h2 => I.ok.inj a b c (I.clos2 S h1) (I.clos2 S h2)
 has := fun y hy => by
  have hfree : sc.names.lookup y = some .free := by
   rcases hy with hy | hy
   ·rcases Qam (env := X.env) (names := sc.names) hy with q | q
    ·exact absurd rfl (S.nocell _ (PySem.mem_of_lookup q))
    ·exact q
   ·rcases Qam (env := X.env) (names := sc.names) hy with q | q
    ·exact q
    ·exact q
  obtain ⟨c, hc⟩ := I.cells2 S (y, .free) (PySem.mem_of_lookup hfree) rfl
  exact ⟨c, Qcp hc (.inl (PySem.mem_of_lookup hfree))⟩
 cab := fun _ _ h => absurd (show false = true from h) Bool.false_ne_true
 hd := I.ok.hd
 frames := I.ok.frames
 stk := .inl rfl
 exf := fun b hb => ⟨Nat.ne_of_lt (Nat.lt_of_lt_of_le (hlt b hb) hC), fun y c h z => (hf b hb).2.2.2.2.1 y c (I.clos2 S h) z⟩
 bs := I.bs
 bsz := Nat.le_trans I.ok.bsz I.sz
 noex := fun b o e hb => by
  rcases (hf b hb).2.2.2.1 with z | z
  ·exact I.ok.noex b o e z
  ·exact absurd (Nat.lt_of_lt_of_le (Heap.lt_size e) (Nat.le_trans I.ok.bsz z)) (Nat.lt_irrefl _)
 exfs := fun b hb z => by
  rcases List.mem_cons.mp (I.stkSub b z) with q | q
  ·exact (hf b hb).2.1 q
  ·exact (hf b hb).2.2.1 q
 funs := I.stack
 frf := I.stkFree
theorem Qhc (I : Inv X pins σ H s) (S : QaK X.env.scope X.N sc x yy N fr) (hC : s.heap.objs.size ≤ C) (hf : ∀ b ∈ ex, Qe8 X pins H b) (hlt : ∀ b ∈ ex, b < s.heap.objs.size) {h' : Heap} {t' : Nat}
    (hn : ∃ m, h'.Ns C m) (k : ∀ b o, s.heap.get? b = some o → h'.get? b = some o) : Inv (blk X sc (x :: yy :: N) C ex s H) [] (none :: none :: QbB σ fr) H { s with heap := h', toks := t' } := by
  obtain ⟨m, hn⟩ := hn
  have hlen : fr.length = N.length := by have := congrArg List.length S.ix; simpa using this
  refine ⟨QjY I S hC hf hlt, rfl, I.bare, Un.kept k, ⟨m, hn, fun i y v h1 h2 h3 => ?_⟩, fun y c h => ?_, I.hok.fresh hC, fun y c h => I.freeC y c (I.clos2 S h), fun p hp => absurd (show p ∈ ([] : List (Addr × Obj)) from hp) (by simp), I.hok.kept k, ?_⟩
  · cases i with
    | zero => cases (show some (none : Option V) = some (some v) from h2)
    | succ i => cases i with
     | zero => cases (show some (none : Option V) = some (some v) from h2)
     | succ i =>
      have h2 : (QbB σ fr)[i]? = some (some v) := h2
      have h1 : N[i]? = some y := h1
      obtain ⟨j, hj, hv⟩ := Qgt h2
      have e1 : (fr.map fun i => X.N[i]?)[i]? = (N.map some)[i]? := by rw [S.ix]
      rw [List.getElem?_map, List.getElem?_map, hj, h1] at e1
      have e1 : X.N[j]? = some y := Option.some.inj e1
      have hfree := S.fk y (List.mem_of_getElem? h1)
      have hcell : X.env.scope.names.lookup y = some .cell := S.free (y, .free) (PySem.mem_of_lookup hfree) rfl
      obtain ⟨m0, _, hl⟩ := I.loc
      obtain ⟨u, ru, l⟩ := hl j y v e1 hv (.inr (.inl hcell))
      refine ⟨u, ru, ?_⟩
      rcases l with ⟨q, _⟩ | ⟨_, c, hc, o, ho, hd⟩
      · have q : X.env.scope.names.lookup y = some .local := q
        rw [hcell] at q
        cases q
      · exact .inr ⟨.inl (Qbo I.ok.kind hfree hcell), c, Qcp hc (.inl (PySem.mem_of_lookup hfree)), o, k _ o ho, hd⟩
  · obtain ⟨v, o, ho, hd⟩ := I.cell y c (I.clos2 S h)
    exact ⟨v, o, k _ o ho, hd⟩
  · show (none :: none :: QbB σ fr).length = (x :: yy :: N).length
    unfold QbB
    rw [List.length_cons, List.length_cons, List.length_map, hlen, List.length_cons, List.length_cons]
end
def Qhp (fr : List Nat) (tc : TT) (te : TE) (σ : St) (Q : VK) : It → Hp → Prop := fun J H1 => ∃ W : Nat → Nat → List V → Hp → Prop, (∃ m, W 0 m [] H1) ∧ ∀ i m ys H, W i m ys H →
 (J.stop i H ∧ ys.length ≤ sizeLine ∧ ∀ p, H p = none → Q (.ref p) (upd H p (.lst ys))) ∨
 (J.go i H ∧ ys.length < sizeLine ∧ ∃ N : List V → Hp → Prop, (∀ ys' H', N ys' H' → ∃ m', m' < m ∧ W (i + 1) m' ys' H') ∧ ∀ v H', J.yld i H v H' → ∃ p a b, v = .ref p ∧ H' p = some (.tup [a, b]) ∧ tc (some a :: some b :: QbB σ fr) H' fun c H2 =>
  if c = true then te (some a :: some b :: QbB σ fr) H2 fun y H3 => N (ys ++ [y]) H3 else N ys H2)
def tComp2 (wi : TI) (fr : List Nat) (tc : TT) (te : TE) : TE := fun σ H Q => wi σ H (Qhp fr tc te σ Q)
section
variable {X : Cx} {elt iter : Expr} {x yy : Str} {px py tp pos : Pos} {tk : Nat} {ifs : List Expr} {sc : Scope} {N : List Str} {fr : List Nat} {wi : TI} {tc : TT} {te : TE}
theorem Qg9 (S : QaK X.env.scope X.N sc x yy N fr) (hcalm : X.calm = true) (hc : ∀ C ex s H, Qj3 (blk X sc (x :: yy :: N) C ex s H) ifs tc) (he : ∀ C ex s H, PE (blk X sc (x :: yy :: N) C ex s H) elt te)
  {pins : List (Addr × Obj)} {σ : St} {H : Hp} {s : Shared} {E : Value → Shared → Prop} {it : Addr} {fp : List Addr} {tn : Nat → Heap → Prop} {J : It} {Q : VK} {RR : Value → Addr → Result → Shared → Prop}
  (I : Inv X pins σ H s) (T : Qjk X.prog X.w X.K (.Tuple [.Name x px, .Name yy py] tk tp) J fp it tn) (st : tn 0 s.heap) (f2 : ∀ b ∈ fp, Qe8 X pins H b)
  (hW : ∃ W : Nat → Nat → List V → Hp → Prop, (∃ m, W 0 m [] H) ∧ ∀ i m ys H, W i m ys H →
   (J.stop i H ∧ ys.length ≤ sizeLine ∧ ∀ p, H p = none → Q (.ref p) (upd H p (.lst ys))) ∨
   (J.go i H ∧ ys.length < sizeLine ∧ ∃ N : List V → Hp → Prop, (∀ ys' H', N ys' H' → ∃ m', m' < m ∧ W (i + 1) m' ys' H') ∧ ∀ v H', J.yld i H v H' → ∃ p a b, v = .ref p ∧ H' p = some (.tup [a, b]) ∧ tc (some a :: some b :: QbB σ fr) H' fun c H2 =>
    if c = true then te (some a :: some b :: QbB σ fr) H2 fun y H3 => N (ys ++ [y]) H3 else N ys H2))
  (hRR : ∀ (D C : Addr) (H' : Hp) (s' : Shared), Inv X pins σ H' s' → (∃ o, s'.heap.get? C = some o ∧ (∃ m, s'.heap.Ns C m) ∧ ∀ v, o.data ≠ .cell v) → Qe8 X pins H' C → Q (.ref D) H' → RR (.ref D) C (.ok .next) s') :
  wpAny (model X.prog X.w) X.A (newList []) (fun acc s₃ => wpAny (model X.prog X.w) X.A (newFunctionEnv sc X.env.globals (QbT X.env sc.names []) [] X.env.qual none .none (some X.env)) (fun cenv s₄ =>
   codeAny (model X.prog X.w) X.A (.compStart (.ListComp elt [⟨.Tuple [.Name x px, .Name yy py] tk tp, iter, ifs, 0⟩] sc pos) 0 (.ref it) acc { cenv with scope := relabel sc X.env }) (RR acc cenv.locals) s₄) E s₃) E s := by
 obtain ⟨W, ⟨m0, w0⟩, turn⟩ := hW
 have hlt : ∀ b ∈ fp, b < s.heap.objs.size := fun b hb => let ⟨o, e, _⟩ := T.obj _ _ st b hb; Heap.lt_size e
 refine wpAny_newObj_type (wpAny_newFunctionEnv S.nocell (by intro y hy; simp at hy) (fun h₁ hns₁ hsb₁ => ?_) S.kind)
 dsimp only at hns₁ hsb₁ ⊢
 generalize hH2 : s.heap.push { cls := .type "list", dict := none, data := .seq ([] : List Value).toArray } = H2 at hns₁ hsb₁ ⊢
 have hC : H2.objs.size = s.heap.objs.size + 1 := by rw [← hH2, Heap.size_push]
 have hDC : s.heap.objs.size ≠ H2.objs.size := by rw [hC]; exact Nat.ne_of_lt (Nat.lt_succ_self _)
 have hCle : s.heap.objs.size ≤ H2.objs.size := by rw [hC]; exact Nat.le_succ _
 have old : ∀ b o, s.heap.get? b = some o → h₁.get? b = some o := fun b o e =>
  hsb₁.extBut b o (by rw [hC]; exact Nat.ne_of_lt (Nat.lt_succ_of_lt (Heap.lt_size e))) (Heap.get?_push_of_some _ (hH2 ▸ Heap.get?_push_of_some _ e))
 have eD : h₁.get? s.heap.objs.size = some (lob [] 0) := hsb₁.extBut _ _ hDC (Heap.get?_push_of_some _ (hH2 ▸ Heap.get?_push_size _ rfl))
 have fpX : ∀ {H' : Hp} {o : Obj}, (∀ b ∈ fp, H' b = none) → ∀ b ∈ fp, Qe8 (blk X sc (x :: yy :: N) H2.objs.size fp s H) [(s.heap.objs.size, o)] H' b := fun {H' o} hn b hb => by
  refine ⟨hn b hb, Nat.ne_of_lt (Nat.lt_of_lt_of_le (hlt b hb) hCle), fun z => ?_, .inl hb, fun y c h => (f2 b hb).2.2.2.2.1 y c (I.clos2 S h), fun p hp z => ?_⟩
  ·rcases List.mem_cons.mp (I.stkSub b z) with q | q
   ·exact (f2 b hb).2.1 q
   ·exact (f2 b hb).2.2.1 q
  ·have hp : p = (s.heap.objs.size, o) := by simpa using (show p ∈ [] ++ [(s.heap.objs.size, o)] from hp)
   subst hp
   exact absurd (hlt b hb) (by rw [← z]; exact Nat.lt_irrefl _)
 have pinD : ∀ {pl : List (Addr × Obj)} {σ' : St} {H' : Hp} {s' : Shared} {its : List Value} {n : Nat}, Inv (blk X sc (x :: yy :: N) H2.objs.size fp s H) pl σ' H' s' → s'.heap.get? s.heap.objs.size = some (lob its n) → H' s.heap.objs.size = none →
   Inv (blk X sc (x :: yy :: N) H2.objs.size fp s H) [(s.heap.objs.size, lob its n)] σ' H' s' := fun {pl σ' H' s' its n} J' e hn => by
  refine J'.pins_of fun p hp => ?_
  have hp : p = (s.heap.objs.size, lob its n) := by simpa using hp
  subst hp
  refine ⟨e, hn, hDC, fun z => ?_, fun v z => by cases z⟩
  obtain ⟨_, o, ho, _⟩ := I.stack.mem z
  exact absurd (Heap.lt_size ho) (Nat.lt_irrefl _)
 have IX : Inv (blk X sc (x :: yy :: N) H2.objs.size fp s H) [(s.heap.objs.size, lob [] 0)] (none :: none :: QbB σ fr) H { s with heap := h₁, toks := s.toks + ([] : List (Str × Value)).length } :=
  pinD (Qhc I S hCle f2 hlt ⟨_, hns₁⟩ old) eD (I.hok.fresh (Nat.le_refl _))
 have st₁ : tn 0 h₁ := T.keep _ _ _ st fun b _ o e => old b o e
 have loop : ∀ s₃ : Shared, s₃ = { s with heap := h₁, toks := s.toks + ([] : List (Str × Value)).length } →
   codeAny (model X.prog X.w) X.A (.compLoop (.ListComp elt [⟨.Tuple [.Name x px, .Name yy py] tk tp, iter, ifs, 0⟩] sc pos) 0 (.ref it) (.ref s.heap.objs.size) (blk X sc (x :: yy :: N) H2.objs.size fp s H).env)
    (RR (.ref s.heap.objs.size) H2.objs.size) s₃ := by
  rintro s₃ rfl
  refine QfI (fun n s' => ∃ i v0 v1 its c ys H', Inv (blk X sc (x :: yy :: N) H2.objs.size fp s H) [(s.heap.objs.size, lob its c)] (v0 :: v1 :: QbB σ fr) H' s' ∧ Vals ys its ∧ tn i s'.heap ∧ (∀ b ∈ fp, H' b = none) ∧ W i n ys H') ?_ m0
   ⟨0, none, none, [], 0, [], H, IX, .nil, st₁, fun b hb => (f2 b hb).1, w0⟩
  rintro n s4 ⟨i, v0, v1, its, c, ys, H4, I4, rv, st4, fr4, w4⟩
  have pD := I4.pin (s.heap.objs.size, lob its c) (List.mem_append_right _ (List.mem_singleton.mpr rfl))
  rcases turn i n ys H4 w4 with ⟨stop, hz, fin⟩ | ⟨go, hz, NN, hNN, step⟩
  ·refine thn (T.done (blk X sc (x :: yy :: N) H2.objs.size fp s H) rfl rfl rfl hcalm i _ s4 _ H4 NoE I4 (fpX fr4) st4 stop) fun r s5 ⟨hr, I5⟩ => ?_
   subst hr
   obtain ⟨e5, n5, _⟩ := I5.pin (s.heap.objs.size, lob its c) (List.mem_append_right _ (List.mem_singleton.mpr rfl))
   have e5 : s5.heap.get? s.heap.objs.size = some (lob its c) := e5
   have n5 : H4 s.heap.objs.size = none := n5
   have IF : Inv X pins σ (upd H4 s.heap.objs.size (.lst ys)) s5 := I.call' (ch := fp) I5.os (Un.track I5.base n5 (Nat.le_refl _)) (HOk.track I5.hok n5 ⟨hz, its, c, rv, e5⟩) I5.bare
    fun b hb => ⟨(f2 b hb).2.2.2.1, (f2 b hb).2.1, (f2 b hb).2.2.2.2.1, (f2 b hb).2.2.2.2.2⟩
   obtain ⟨mC, nsC, _⟩ := I5.loc
   obtain ⟨oC, esC, epC, hoC, hdC, _⟩ := id nsC
   refine hRR _ _ _ s5 IF ⟨oC, hoC, ⟨mC, nsC⟩, fun v z => by rw [hdC] at z; cases z⟩ (I.fpOk hCle ?_) (fin _ n5)
   rw [Qg (Ne.symm hDC)]
   exact I5.free
  ·refine thn (T.item (blk X sc (x :: yy :: N) H2.objs.size fp s H) rfl rfl rfl hcalm i _ s4 _ H4 NoE I4 (fpX fr4) st4 go) fun r s5 ⟨u, hr, h5⟩ => ?_
   subst hr
   refine thn h5 fun _ s6 ⟨v, H6, I6, r6, y6, st6, fr6⟩ => ?_
   have I6' := I6.pinned (fpX fr6) (T.obj _ _ st6)
   obtain ⟨pp, va, vb, ev, hpp, hstep⟩ := step v H6 y6
   refine wpAny_mono (Qb0 (X := blk X sc (x :: yy :: N) H2.objs.size fp s H) (i := 0) (j := 1) (px := px) (py := py) (pos := tp) (k := tk) hcalm S.nd rfl rfl (.inl (lookup_relabel_local S.xl)) (.inl (lookup_relabel_local S.yl)) (.inr (lookup_relabel_local S.xl)) (.inr (lookup_relabel_local S.yl)) _ s6 _ H6 v u (fun σ7 H7 => σ7 = some va :: some vb :: QbB σ fr ∧ H7 = H6) I6' r6 ⟨pp, va, vb, ev, hpp, rfl, rfl⟩) (fun _ s7 ⟨σ7, H7, I7, e7, e7'⟩ => ?_) fun _ _ z => False.elim z
   subst e7 e7'
   refine thn (hc _ _ _ _ _ s7 _ _ _ I7 hstep) fun b s8 ⟨H8, I8, q8⟩ => ?_
   have atFp : ∀ {σ' : St} {H' : Hp} {s' : Shared}, Inv (blk X sc (x :: yy :: N) H2.objs.size fp s H) ([(s.heap.objs.size, lob its c)] ++ Qds fp s6.heap) σ' H' s' → tn (i + 1) s'.heap ∧ ∀ b ∈ fp, H' b = none := fun {σ' H' s'} J' => by
    refine ⟨T.keep _ _ _ st6 fun b hb o e => (J'.pin (b, o) (List.mem_append_right _ (List.mem_append_right _ (QaA hb e)))).1, fun b hb => ?_⟩
    obtain ⟨o, e, _⟩ := T.obj _ _ st6 b hb
    exact (J'.pin (b, o) (List.mem_append_right _ (List.mem_append_right _ (QaA hb e)))).2.1
   cases b with
   | false =>
    have q8 : NN ys H8 := q8
    obtain ⟨m', hm, w8⟩ := hNN _ _ q8
    obtain ⟨a1, a2⟩ := atFp I8
    exact ⟨m', hm, i + 1, some va, some vb, its, c, ys, H8, I8.unpinned, rv, a1, a2, w8⟩
   | true =>
    refine thn (he _ _ _ _ _ s8 _ H8 _ I8 q8) fun y s9 ⟨yv, H9, I9, r9, q9⟩ => ?_
    obtain ⟨m', hm, w9⟩ := hNN _ _ q9
    obtain ⟨e9, n9, _⟩ := I9.pin (s.heap.objs.size, lob its c) (List.mem_append_right _ (List.mem_append_left _ (List.mem_singleton.mpr rfl)))
    have e9 : s9.heap.get? s.heap.objs.size = some (lob its c) := e9
    have n9 : H9 s.heap.objs.size = none := n9
    obtain ⟨a1, a2⟩ := atFp I9
    have hl : ys.length = its.length := rv.length
    refine call_meets F.slot_list_append ⟨_, e9, rfl⟩ F.entry_list_append (F.args_list_append_2 _ _) (PySem.list_append s.heap.objs.size its.toArray c y (by rw [List.size_toArray]; omega)) ⟨e9, ?_⟩
    have q := PySem.IsL.update e9 (·.push y)
    have hpush : its.toArray.push y = (its ++ [y]).toArray := by simp
    rw [hpush] at q
    have kO : ∀ b o, b ≠ s.heap.objs.size → s9.heap.get? b = some o → (s9.heap.update s.heap.objs.size (Obj.mapSeq (·.push y))).get? b = some o := fun b o hb e => (Heap.get?_update_other s9.heap _ (Ne.symm hb)).trans e
    have J1 : Inv (blk X sc (x :: yy :: N) H2.objs.size fp s H) [] (some va :: some vb :: QbB σ fr) H9 s9 := I9.pins_of fun p hp => absurd hp (by simp)
    have J2 := J1.turned (it := s.heap.objs.size) (t' := s9.toks) kO n9 hDC (.inr (Nat.le_refl _)) (fun z cc h e => by
     obtain ⟨vv, o, ho, _⟩ := I.cell z cc (I.clos2 S h)
     exact absurd (Heap.lt_size ho) (by rw [e]; exact Nat.lt_irrefl _)) (fun p hp => absurd (show p ∈ ([] : List (Addr × Obj)) from hp) (by simp))
    refine ⟨m', hm, i + 1, some va, some vb, its ++ [y], _, ys ++ [yv], H9, pinD J2 q n9, rv.append (.cons r9 .nil), T.keep _ _ _ a1 fun b hb o e => kO b o (Nat.ne_of_lt (hlt b hb)) e, a2, w9⟩
 exact codeAny_compStart_list (loop _ rfl) (T.self _ 0 _ _ _ st₁ (loop _ rfl))
theorem QiJ (S : QaK X.env.scope X.N sc x yy N fr) (hcalm : X.calm = true) (hi : PI X (.Tuple [.Name x px, .Name yy py] tk tp) iter wi) (hc : ∀ C ex s H, Qj3 (blk X sc (x :: yy :: N) C ex s H) ifs tc) (he : ∀ C ex s H, PE (blk X sc (x :: yy :: N) C ex s H) elt te)
  (hs : ∀ v, foldedSetIterable iter X.env v = pure v := by intro _; rfl) : PE X (.ListComp elt [⟨.Tuple [.Name x px, .Name yy py] tk tp, iter, ifs, 0⟩] sc pos) (tComp2 wi fr tc te) := by
 intro pins s σ H Q I h
 rw [eval_ListComp]
 refine wpAny_comprehension_free (use := none) rfl hs (Qgf (I.cells2 S)) S.kind S.names (thn (hi pins s σ H _ I h) fun v s1 h1 => thn h1 fun itv s2 h2 => ?_)
 obtain ⟨it, fp, tn, J, H2, e, I2, T, st2, f2, hW⟩ := h2
 subst e
 refine Qg9 (RR := fun acc C => compPost (model X.prog X.w) X.A X.xe none (EP X pins σ Q) acc C) S hcalm hc he I2 T st2 f2 hW fun D C H' s' I' ⟨o, ho, ⟨m, hn⟩, hd⟩ fC q => ?_
 obtain ⟨f0, f1, f3, f4, f5, f6⟩ := fC
 exact ⟨m, hn, fun h' hsb => ⟨.ref D, H', I'.turned (t' := s'.toks) (fun b ob hb e => (hsb.2 b hb).trans e) f0 f1 f4 f5 f6, rfl, q⟩⟩
end
end L2
namespace L2
open PySem PySem.Spec PyProof.Rows PySem.W
inductive EqG (H : Hp) : Nat → V → V → Bool → Prop
 | flat {n : Nat} {v u : V} (h1 : Qbt v = true) (h2 : Qbt u = true) : EqG H n v u (eqV v u)
 | same {n : Nat} {v : V} (hnb : (match v with | .byt _ => false | .flt _ => false | _ => true) = true) : EqG H n v v true
 | tf {n : Nat} {a : Addr} {xs : List V} {u : V} (h1 : H a = some (.tup xs)) (h2 : Qbt u = true) : EqG H n (.ref a) u false
 | ft {n : Nat} {a : Addr} {xs : List V} {u : V} (h1 : H a = some (.tup xs)) (h2 : Qbt u = true) : EqG H n u (.ref a) false
 | tup {n : Nat} {a b : Addr} {xs ys : List V} {e : Nat → Bool} (ne : a ≠ b) (ha : H a = some (.tup xs)) (hb : H b = some (.tup ys)) (he : ∀ (j : Nat) (x y : V), xs[j]? = some x → ys[j]? = some y → EqG H n x y (e j)) :
   EqG H (n + 1) (.ref a) (.ref b) ((List.range (min xs.length ys.length)).all e && xs.length == ys.length)
 | lst {n : Nat} {a b : Addr} {xs ys : List V} {e : Nat → Bool} (ne : a ≠ b) (ha : H a = some (.lst xs)) (hb : H b = some (.lst ys)) (he : ∀ (j : Nat) (x y : V), xs[j]? = some x → ys[j]? = some y → EqG H n x y (e j)) :
   EqG H (n + 1) (.ref a) (.ref b) (xs.length == ys.length && (List.range xs.length).all e)
section
variable {X : Cx} {pins : List (Addr × Obj)} {σ : St} {H : Hp} {s : Shared}
theorem QeZ {xs ys : List V} {its its2 : List Value} {e : Nat → Bool} {A : Around} (r1 : Vals xs its) (r2 : Vals ys its2)
  (he : ∀ (j : Nat) (x y : V) (u v : Value), xs[j]? = some x → ys[j]? = some y → RelV x u → RelV y v → SeqAt.EqAt A s u v (e j)) :
  ∀ j (h1 : j < its.toArray.size) (h2 : j < its2.toArray.size), SeqAt.EqAt A s its.toArray[j] its2.toArray[j] (e j) := fun j h1 h2 => by
 have l1 := r1.length
 have l2 := r2.length
 have h1 : j < its.length := by simpa using h1
 have h2 : j < its2.length := by simpa using h2
 have e1 : xs[j]? = some (xs[j]'(by omega)) := List.getElem?_eq_getElem (by omega)
 have e2 : ys[j]? = some (ys[j]'(by omega)) := List.getElem?_eq_getElem (by omega)
 obtain ⟨u1, q1, s1⟩ := r1.get e1
 obtain ⟨u2, q2, s2⟩ := r2.get e2
 have w1 : its.toArray[j] = u1 := by
  have := List.getElem?_eq_getElem h1
  rw [q1] at this
  simpa using (Option.some.inj this).symm
 have w2 : its2.toArray[j] = u2 := by
  have := List.getElem?_eq_getElem h2
  rw [q2] at this
  simpa using (Option.some.inj this).symm
 rw [w1, w2]
 exact he j _ _ _ _ e1 e2 s1 s2
theorem QiO {A : Around} {a b : Addr} {xs ys : List V} {e : Nat → Bool} (I : Inv X pins σ H s) (ha : H a = some (.lst xs)) (hb : H b = some (.lst ys)) (hu : A.units < cLine)
  (he : ∀ (j : Nat) (x y : V) (u v : Value), xs[j]? = some x → ys[j]? = some y → RelV x u → RelV y v → SeqAt.EqAt A.in1 s u v (e j)) : SeqAt.RcAt A s (.ref a) (.ref b) (xs.length == ys.length && (List.range xs.length).all e) := by
 obtain ⟨_, its, c, r1, _, e1⟩ := I.lstM ha
 obtain ⟨_, its2, c2, r2, _, e2⟩ := I.lstM hb
 have l1 := r1.length
 have l2 := r2.length
 have p1 : s.heap.IsList a its.toArray := ⟨_, e1, rfl, _, rfl⟩
 have p2 : s.heap.IsList b its2.toArray := ⟨_, e2, rfl, _, rfl⟩
 by_cases hz : xs.length = ys.length
 ·have := SeqAt.RcAt.lists (e := e) p1 p2 (by simp; omega) hu (QeZ r1 r2 he)
  rw [show (xs.length == ys.length && (List.range xs.length).all e) = (List.range its.toArray.size).all e by rw [List.size_toArray, ← l1]; simp [hz]]
  exact this
 ·have := SeqAt.RcAt.lists_lengths p1 p2 (by simp; omega) hu
  rw [show (xs.length == ys.length && (List.range xs.length).all e) = false by simp [hz]]
  exact this
theorem EqG.at {n : Nat} {v u : V} {b : Bool} (g : EqG H n v u b) (I : Inv X pins σ H s) : ∀ {A : Around} {v' u' : Value}, RelV v v' → RelV u u' → A.units + n < cLine → SeqAt.EqAt A s v' u' b := by
 induction g with
 | flat h1 h2 => exact fun r1 r2 _ => Qij r1 r2 h1 h2
 | @same n v hnb =>
  intro A v' u' r1 r2 _
  cases v with
  | non => cases r1; cases r2; exact SeqAt.EqAt.same _
  | bl c => cases r1; cases r2; exact SeqAt.EqAt.same _
  | int i =>
   obtain ⟨t, rfl⟩ := r1
   obtain ⟨t', rfl⟩ := r2
   have := SeqAt.EqAt.int_int (A := A) (s := s) i t i t'
   rwa [beq_self_eq_true] at this
  | str x =>
   obtain ⟨t, rfl⟩ := r1
   obtain ⟨t', rfl⟩ := r2
   have := SeqAt.EqAt.str_str (A := A) (s := s) x t x t'
   rwa [beq_self_eq_true] at this
  | ref a => cases r1; cases r2; exact SeqAt.EqAt.same _
  | ty T => cases r1; cases r2; exact SeqAt.EqAt.same _
  | byt x => cases hnb
  | flt x => cases hnb
 | @tf n a xs u h1 h2 =>
  intro A v' u' r1 r2 hu
  cases r1
  obtain ⟨its, _, p1, _⟩ := I.tuple (SqT.of h1)
  have p1 : s.heap.IsTuple _ its.toArray := p1
  cases u with
  | non => cases r2; exact SeqAt.EqAt.tuple_none p1 (by omega)
  | bl c => cases r2; exact SeqAt.EqAt.tuple_bool c p1 (by omega)
  | int i => obtain ⟨t, rfl⟩ := r2; exact SeqAt.EqAt.tuple_int i t p1 (by omega)
  | str x => obtain ⟨t, rfl⟩ := r2; exact SeqAt.EqAt.tuple_str x t p1 (by omega)
  | ref a => cases h2
  | ty T => cases h2
  | byt x => cases h2
  | flt x => cases h2
 | @ft n a xs u h1 h2 =>
  intro A v' u' r1 r2 hu
  cases r2
  obtain ⟨its, _, p1, _⟩ := I.tuple (SqT.of h1)
  have p1 : s.heap.IsTuple _ its.toArray := p1
  cases u with
  | non => cases r1; exact SeqAt.EqAt.none_tuple p1 (by omega)
  | bl c => cases r1; exact SeqAt.EqAt.bool_tuple c p1 (by omega)
  | int i => obtain ⟨t, rfl⟩ := r1; exact SeqAt.EqAt.int_tuple i t p1 (by omega)
  | str x => obtain ⟨t, rfl⟩ := r1; exact SeqAt.EqAt.str_tuple x t p1 (by omega)
  | ref a => cases h2
  | ty T => cases h2
  | byt x => cases h2
  | flt x => cases h2
 | @tup n a b xs ys e ne ha hb he ih =>
  intro A v' u' r1 r2 hu
  cases r1
  cases r2
  obtain ⟨its, r1, p1, _⟩ := I.tuple (SqT.of ha)
  obtain ⟨its2, r2, p2, _⟩ := I.tuple (SqT.of hb)
  have l1 := r1.length
  have l2 := r2.length
  have := SeqAt.RcAt.tuples (A := A) (e := e) (show s.heap.IsTuple a its.toArray from p1) (show s.heap.IsTuple b its2.toArray from p2) (by omega) (QeZ r1 r2 fun j x y u v hx hy rx ry => ih j x y hx hy rx ry (by show A.units + 1 + n < cLine; omega))
  rw [List.size_toArray, List.size_toArray, ← l1, ← l2] at this
  exact SeqAt.EqAt.of_refs ne this
 | @lst n a b xs ys e ne ha hb he ih =>
  intro A v' u' r1 r2 hu
  cases r1
  cases r2
  exact SeqAt.EqAt.of_refs ne (QiO I ha hb (by omega) fun j x y u v hx hy rx ry => ih j x y hx hy rx ry (by show A.units + 1 + n < cLine; omega))
end
end L2
namespace L2
open PySem PySem.Spec PyProof.Rows PySem.W
section
variable {X : Cx}
def Qjy : V → List V → Hp → VK → Prop := fun x vs H Q => ∃ (l : Addr) (ns : List Int) (n : Int) (j : Nat), x = .ref l ∧ vs = [.int n] ∧ H l = some (.lst (ns.map V.int)) ∧ ns[j]? = some n ∧ (∀ i, i < j → ns[i]? ≠ some n) ∧ j < 1000 ∧ Q (.int (j : Nat)) H
theorem Qgj : ∀ {ns : List Int} {its : List Value}, Vals (ns.map V.int) its → ∃ ts : List Tok, its = (ns.zip ts).map (fun p => Value.int p.1 p.2) ∧ ts.length = ns.length
 | [], _, .nil => ⟨[], rfl, rfl⟩
 | n :: _, _, .cons r t => by
  obtain ⟨ts, e, l⟩ := Qgj t
  obtain ⟨u, rfl⟩ := r
  exact ⟨u :: ts, by rw [e]; rfl, by simp [l]⟩
theorem Qh2 : MtM X "list.index" Qjy := by
 intro pins s σ H x vs v us Q I rx rv h
 obtain ⟨l, ns, n, j, rfl, rfl, hH, hj, hi, hs, q⟩ := h
 cases rx
 obtain ⟨u, rfl, ru⟩ := rv.one
 obtain ⟨t, rfl⟩ := ru
 obtain ⟨z, its, c, r, hl, e⟩ := I.lstM hH
 obtain ⟨ts, rfl, lt⟩ := Qgj r
 have hjl := (List.getElem?_eq_some_iff.mp hj).1
 have at_ : ∀ (i : Nat) (m : Int), ns[i]? = some m → ∃ t', ((ns.zip ts).map (fun p => Value.int p.1 p.2))[i]? = some (.int m t') := fun i m hm => by
  have h1 := (List.getElem?_eq_some_iff.mp hm).1
  refine ⟨ts[i]'(by omega), ?_⟩
  rw [List.getElem?_map, List.getElem?_zip_eq_some.mpr (show ns[i]? = some (m, ts[i]'(by omega)).1 ∧ ts[i]? = some (m, ts[i]'(by omega)).2 from ⟨hm, List.getElem?_eq_getElem _⟩)]
  rfl
 have hz : j < ((ns.zip ts).map (fun p => Value.int p.1 p.2)).toArray.size := by simp; omega
 refine call_meets F.slot_list_index ⟨_, e, rfl⟩ F.entry_list_index (F.args_list_index_2 _ _)
  (MeetsSeq.list_index l _ c (.int n t) (fun y => match y with | .int m _ => m == n | _ => false) (fun y hy => ?_) j hz (by omega) ?_ (fun i hi' hlt => ?_)) ⟨e, ?_⟩
 ·obtain ⟨p, _, rfl⟩ := List.mem_map.mp (List.mem_toArray.mp hy)
  exact MeetsSeq.EqGives.int p.1 n p.2 t
 ·obtain ⟨t', h2⟩ := at_ j n hj
  have h2 := (List.getElem?_eq_some_iff.mp h2).2
  rw [show ((ns.zip ts).map (fun p => Value.int p.1 p.2)).toArray[j]'hz = Value.int n t' from by simpa using h2]
  simp
 ·have hil : i < ns.length := by omega
  obtain ⟨t', h2⟩ := at_ i ns[i] (List.getElem?_eq_getElem hil)
  have h2 := (List.getElem?_eq_some_iff.mp h2).2
  rw [show ((ns.zip ts).map (fun p => Value.int p.1 p.2)).toArray[i]'hi' = Value.int ns[i] t' from by simpa using h2]
  have : ns[i] ≠ n := fun z => hi i hlt (by rw [List.getElem?_eq_getElem hil, z])
  simpa using this
 ·exact ⟨.int (j : Nat), H, I.tok _, ⟨s.toks, rfl⟩, q⟩
end
end L2
namespace L2
open PySem PySem.Spec PyProof.Rows PySem.W
section
variable {X : Cx} {pins : List (Addr × Obj)} {σ : St} {H : Hp} {s : Shared}
def rNeG : R2 := fun x y H Q => ∃ (a b : Addr) (xs ys : List V) (e : Nat → Bool), x = .ref a ∧ y = .ref b ∧ H a = some (.lst xs) ∧ H b = some (.lst ys) ∧ (∀ (j : Nat) (x y : V), xs[j]? = some x → ys[j]? = some y → EqG H 8 x y (e j)) ∧ Q (.bl (!(xs.length == ys.length && (List.range xs.length).all e))) H
theorem op_neG (hu : X.A.units + 64 < cLine) : OpR X (compareOp .NotEq) rNeG := by
 intro pins s σ H x y v u Q I rx ry h
 obtain ⟨a, b, xs, ys, e, rfl, rfl, ha, hb, he, q⟩ := h
 cases rx
 cases ry
 obtain ⟨_, its, c, r1, _, e1⟩ := I.lstM ha
 obtain ⟨_, its2, c2, r2, _, e2⟩ := I.lstM hb
 have l1 := r1.length
 have l2 := r2.length
 have p1 : s.heap.IsList a its.toArray := ⟨_, e1, rfl, _, rfl⟩
 have p2 : s.heap.IsList b its2.toArray := ⟨_, e2, rfl, _, rfl⟩
 have hit := QeZ (s := s) (A := X.A.in1) (e := e) r1 r2 (fun j x y u v hx hy r1 r2 => (he j x y hx hy).at I r1 r2 (by show X.A.units + 1 + 8 < cLine; omega))
 by_cases hz : xs.length = ys.length
 ·refine SeqAt.RcNeAt.lists (e := e) p1 p2 (by simp; omega) (by omega) hit X.prog X.w X.xe _ ?_
  rw [show (List.range its.toArray.size).all e = (xs.length == ys.length && (List.range xs.length).all e) by rw [List.size_toArray, ← l1]; simp [hz]]
  exact ⟨.bl _, H, I, rfl, q⟩
 ·refine SeqAt.RcNeAt.lists_lengths p1 p2 (by simp; omega) (by omega) X.prog X.w X.xe _ ?_
  rw [show (xs.length == ys.length && (List.range xs.length).all e) = false by simp [hz]] at q
  exact ⟨.bl true, H, I, rfl, q⟩
end
end L2
namespace LW
open PySem L2
def ren (f : Int → Int) : T → T
 | .box n => .box (f n)
 | t => t
def idx (w : List Int) (n : Int) : Int := (w.idxOf n : Nat)
theorem QcK {w : List Int} {j : Nat} {n : Int} (nd : w.Nodup) (h : w[j]? = some n) : idx w n = j := by
 have h1 := (List.getElem?_eq_some_iff.mp h).1
 have hm := List.mem_of_getElem? h
 have h2 : w.idxOf n < w.length := List.idxOf_lt_length_of_mem hm
 have h3 : w[w.idxOf n]? = some n := by rw [List.getElem?_eq_getElem h2]; exact congrArg some (List.getElem_idxOf h2)
 have := QcH nd h3 h
 unfold idx; omega
abbrev Row := Str × List T
def Qbn (bs : List Box) (w : List Int) (n : Int) : Row := match bs.find? (fun b => decide (b.name = n)) with
 | some b => (b.kind, b.row.map (ren (idx w)))
 | none => ("", [])
theorem QaO {bs : List Box} {w : List Int} {i : Nat} {b : Box} (nd : (bs.map (·.name)).Nodup) (h : bs[i]? = some b) : Qbn bs w b.name = (b.kind, b.row.map (ren (idx w))) := by
 have : bs.find? (fun c => decide (c.name = b.name)) = some b := by
  have hm := List.mem_of_getElem? h
  clear h
  induction bs with
  | nil => cases hm
  | cons c r ih =>
   rw [List.find?_cons]
   have nd' := List.nodup_cons.mp (show (c.name :: r.map (·.name)).Nodup from nd)
   by_cases e : c.name = b.name
   ·rw [decide_eq_true e]
    rcases List.mem_cons.mp hm with z | z
    ·rw [z]
    ·exact absurd (List.mem_map.mpr ⟨b, z, e.symm⟩) nd'.1
   ·rw [decide_eq_false e]
    rcases List.mem_cons.mp hm with z | z
    ·exact absurd (by rw [z]) e
    ·exact ih nd'.2 z
 unfold Qbn
 rw [this]
def QF (bs : List Box) (n : Int) : List Row := (Qq bs n).map (Qbn bs (Qq bs n))
theorem Qiv {ns : List Int} {n : Int} (xs : List Int) (h : n ∈ ns) : n ∈ QcO ns xs := by
 obtain ⟨ys, e⟩ := QbG xs ns
 rw [e]; exact List.mem_append_left _ h
theorem QgP : ∀ (xs : List Int) {ns : List Int} {n : Int}, n ∈ xs → n ∈ QcO ns xs
 | x :: xs, ns, n, h => by
  rw [QaV]
  rcases List.mem_cons.mp h with rfl | h
  ·refine Qiv xs ?_
   split
   ·assumption
   ·exact List.mem_append_right _ (by simp)
  ·exact QgP xs h
theorem Qew (succ : Int → List Int) (n : Int) : ∀ (k j : Nat), ∃ ys, wk succ n (k + j) = wk succ n k ++ ys
 | k, 0 => ⟨[], by simp⟩
 | k, j + 1 => by
  obtain ⟨ys, e⟩ := Qew succ n k j
  cases h : (wk succ n (k + j))[k + j]? with
  | none => exact ⟨ys, by rw [← Nat.add_assoc, Qcu h, e]⟩
  | some x =>
   obtain ⟨zs, e2⟩ := QbG (succ x) (wk succ n (k + j))
   exact ⟨ys ++ zs, by rw [← Nat.add_assoc, Qbd h, e2, e, List.append_assoc]⟩
theorem Qfb {succ : Int → List Int} {n x y : Int} {N : Nat} (hN : (wk succ n N).length ≤ N) (hx : x ∈ wk succ n N) (hy : y ∈ succ x) : y ∈ wk succ n N := by
 obtain ⟨j, hj⟩ := List.getElem?_of_mem hx
 have hjl := (List.getElem?_eq_some_iff.mp hj).1
 obtain ⟨d, rfl⟩ := Nat.le.dest (show j ≤ N by omega)
 have hlen : j < (wk succ n j).length := by
  by_cases z : (wk succ n j).length ≤ j
  ·rw [Qeu z d] at hjl; omega
  ·omega
 obtain ⟨ys, e⟩ := Qew succ n j d
 have hxj : (wk succ n j)[j]? = some x := by
  rw [e, List.getElem?_append_left hlen] at hj; exact hj
 have h1 : y ∈ wk succ n (j + 1) := by rw [Qbd hxj]; exact QgP _ hy
 rcases d with _ | d
 ·exfalso; rw [Nat.add_zero] at hN; omega
 ·obtain ⟨zs, e2⟩ := Qew succ n (j + 1) d
  rw [show j + (d + 1) = j + 1 + d by omega, e2]
  exact List.mem_append_left _ h1
section
variable {bs : List Box} {n : Int}
theorem Qbe : (Qq bs n).Nodup := QgQ _ _ _
theorem Qex (nd : (bs.map (·.name)).Nodup) (hc : Closed bs) (hn : n ∈ bs.map (·.name)) : ∀ m ∈ Qq bs n, m ∈ bs.map (·.name) := Qev hn (hc.succ nd) _
theorem QaW (nd : (bs.map (·.name)).Nodup) (hc : Closed bs) (hn : n ∈ bs.map (·.name)) : (Qq bs n).length ≤ bs.length := by have := Qhi hn (hc.succ nd) bs.length; rwa [List.length_map] at this
theorem QaX (nd : (bs.map (·.name)).Nodup) (hc : Closed bs) (hn : n ∈ bs.map (·.name)) {i : Nat} {b : Box} (hb : bs[i]? = some b) (hm : b.name ∈ Qq bs n) {m : Int} (h : .box m ∈ b.row) : m ∈ Qq bs n :=
 Qfb (QaW nd hc hn) hm (by rw [Qbz nd hb]; exact Z6.mpr h)
end
def RowT (H : Hp) (r : Row) (a : Addr) : Prop := ∃ t vs, H a = some (.tup [.str r.1, .ref t]) ∧ H t = some (.tup vs) ∧ Ths H r.2 vs
def RowL (H : Hp) (r : Row) (a : Addr) : Prop := ∃ vs, H a = some (.lst (.str r.1 :: vs)) ∧ Ths H r.2 vs
theorem RowT.same {H H' : Hp} {r : Row} {a : Addr} (s : Same H H') (h : RowT H r a) : RowT H' r a := let ⟨t, vs, h1, h2, h3⟩ := h; ⟨t, vs, s _ _ h1, s _ _ h2, Ths.keep (Tups.of_same s) h3⟩
theorem RowL.same {H H' : Hp} {r : Row} {a : Addr} (s : Same H H') (h : RowL H r a) : RowL H' r a := let ⟨vs, h1, h3⟩ := h; ⟨vs, s _ _ h1, Ths.keep (Tups.of_same s) h3⟩
theorem QjO {H : Hp} {t t' : T} {v : V} (h : isT H t v) (h' : isT H t' v) : t = t' := by
 cases t with
 | non =>
  have h : v = .non := h
  subst h
  cases t' with
  | non => rfl
  | num i => cases (show V.non = V.int i from h')
  | box n => obtain ⟨a, e, _⟩ := h'; cases e
 | num i =>
  have h : v = .int i := h
  subst h
  cases t' with
  | non => cases (show V.int i = V.non from h')
  | num j => cases (show V.int i = V.int j from h'); rfl
  | box n => obtain ⟨a, e, _⟩ := h'; cases e
 | box n =>
  obtain ⟨a, rfl, e⟩ := h
  cases t' with
  | non => cases (show V.ref a = V.non from h')
  | num j => cases (show V.ref a = V.int j from h')
  | box m =>
   obtain ⟨b, e1, e2⟩ := h'
   cases e1
   rw [e] at e2
   cases e2; rfl
theorem Qiw {H : Hp} : ∀ {ts ts' : List T} {vs : List V}, Ths H ts vs → Ths H ts' vs → ts = ts'
 | _, _, _, .nil, .nil => rfl
 | _, _, _, .cons h t, .cons h' t' => by rw [QjO h h', Qiw t t']
theorem Qih (i j : Int) : eqV (.int i) (.int j) = decide (i = j) := by
 show (i == j) = _
 by_cases z : i = j <;> simp [z]
theorem eqG_T {H : Hp} {t t' : T} {v u : V} {n : Nat} (h : isT H t v) (h' : isT H t' u) : EqG H (n + 1) v u (decide (t = t')) := by
 cases t with
 | non =>
  have h : v = .non := h
  subst h
  cases t' with
  | non => have h' : u = .non := h'; subst h'; exact EqG.flat (n := n + 1) (v := .non) (u := .non) rfl rfl
  | num i => have h' : u = .int i := h'; subst h'; exact EqG.flat (n := n + 1) (v := .non) (u := .int i) rfl rfl
  | box m => obtain ⟨a, rfl, e⟩ := h'; exact EqG.ft e rfl
 | num i =>
  have h : v = .int i := h
  subst h
  cases t' with
  | non => have h' : u = .non := h'; subst h'; exact EqG.flat (n := n + 1) (v := .int i) (u := .non) rfl rfl
  | num j =>
   have h' : u = .int j := h'
   subst h'
   have g := EqG.flat (H := H) (n := n + 1) (v := .int i) (u := .int j) rfl rfl
   rw [Qih] at g
   rw [show decide (T.num i = T.num j) = decide (i = j) by simp]
   exact g
  | box m => obtain ⟨a, rfl, e⟩ := h'; exact EqG.ft e rfl
 | box k =>
  obtain ⟨a, rfl, e⟩ := h
  cases t' with
  | non => have h' : u = .non := h'; subst h'; exact EqG.tf e rfl
  | num j => have h' : u = .int j := h'; subst h'; exact EqG.tf e rfl
  | box m =>
   obtain ⟨b, rfl, e2⟩ := h'
   by_cases ab : a = b
   ·subst ab
    rw [e] at e2
    cases e2
    rw [decide_eq_true rfl]
    exact EqG.same rfl
   ·have g := EqG.tup (n := n) (e := fun j => if j = 0 then true else decide (k = m)) ab e e2 (fun j x y hx hy => by
     rcases j with _ | _ | j
     ·cases hx; cases hy
      exact EqG.flat (n := n) (v := .str "box") (u := .str "box") rfl rfl |> fun g => by simpa [eqV] using g
     ·cases hx; cases hy
      have g := EqG.flat (H := H) (n := n) (v := .int k) (u := .int m) rfl rfl
      rw [Qih] at g
      exact g
     ·simp at hx)
    simpa [List.range, List.range.loop] using g
theorem QfP {α : Type} [DecidableEq α] {xs ys : List α} {e : Nat → Bool} (he : ∀ (j : Nat) (x y : α), xs[j]? = some x → ys[j]? = some y → e j = decide (x = y)) : ((List.range (min xs.length ys.length)).all e && xs.length == ys.length) = decide (xs = ys) := by
 by_cases z : xs.length = ys.length
 ·rw [show (xs.length == ys.length) = true by simp [z], Bool.and_true, ← z, Nat.min_self]
  rw [Bool.eq_iff_iff, List.all_eq_true, decide_eq_true_iff]
  constructor
  ·intro h
   refine List.ext_getElem z fun j h1 h2 => ?_
   have := h j (List.mem_range.mpr h1)
   rw [he j _ _ (List.getElem?_eq_getElem h1) (List.getElem?_eq_getElem h2)] at this
   exact of_decide_eq_true this
  ·rintro rfl j hj
   have hj := List.mem_range.mp hj
   rw [he j _ _ (List.getElem?_eq_getElem hj) (List.getElem?_eq_getElem hj)]
   exact decide_eq_true rfl
 ·rw [show (xs.length == ys.length) = false by simp [z], Bool.and_false]
  exact (decide_eq_false fun e => z (by rw [e])).symm
def eT (ts ts' : List T) (j : Nat) : Bool := match ts[j]?, ts'[j]? with
 | some t, some t' => decide (t = t')
 | _, _ => false
theorem eT_at {ts ts' : List T} (j : Nat) (t t' : T) (h : ts[j]? = some t) (h' : ts'[j]? = some t') : eT ts ts' j = decide (t = t') := by unfold eT; rw [h, h']
theorem QjU {H : Hp} {ts ts' : List T} {vs us : List V} {n : Nat} (h : Ths H ts vs) (h' : Ths H ts' us) : ∀ (j : Nat) (x y : V), vs[j]? = some x → us[j]? = some y → EqG H (n + 1) x y (eT ts ts' j) := fun j x y hx hy => by
 obtain ⟨t, ht, tx⟩ := QM h hx
 obtain ⟨t', ht', ty⟩ := QM h' hy
 rw [eT_at j t t' ht ht']
 exact eqG_T tx ty
theorem QiW {H : Hp} {r r' : Row} {a b : Addr} (h : RowL H r a) (h' : RowL H r' b) : EqG H 8 (.ref a) (.ref b) (decide (r = r')) := by
 obtain ⟨vs, h1, h3⟩ := h
 obtain ⟨us, g1, g3⟩ := h'
 by_cases ab : a = b
 ·subst ab
  rw [h1] at g1
  injection g1 with g1
  injection g1 with g1
  injection g1 with g1 e2
  have e1 : r.1 = r'.1 := by injection g1
  subst e2
  rw [decide_eq_true (Prod.ext e1 (Qiw h3 g3))]
  exact EqG.same rfl
 ·have g := EqG.lst (n := 7) (e := fun j => match j with | 0 => decide (r.1 = r'.1) | j + 1 => eT r.2 r'.2 j) ab h1 g1 (fun j x y hx hy => by
   rcases j with _ | j
   ·cases hx; cases hy
    have g := EqG.flat (H := H) (n := 7) (v := .str r.1) (u := .str r'.1) rfl rfl
    rw [show eqV (.str r.1) (.str r'.1) = decide (r.1 = r'.1) by show (r.1 == r'.1) = _; by_cases z : r.1 = r'.1 <;> simp [z]] at g
    exact g
   ·exact QjU (n := 6) h3 g3 j x y (by simpa using hx) (by simpa using hy))
  have e : ((V.str r.1 :: vs).length == (V.str r'.1 :: us).length && (List.range (V.str r.1 :: vs).length).all (fun j => match j with | 0 => decide (r.1 = r'.1) | j + 1 => eT r.2 r'.2 j)) = decide (r = r') := by
   rw [List.length_cons, List.length_cons, List.range_succ_eq_map, List.all_cons, List.all_map, ← QB h3, ← QB g3]
   show ((r.2.length + 1 == r'.2.length + 1) && (decide (r.1 = r'.1) && (List.range r.2.length).all (eT r.2 r'.2))) = _
   rw [show decide (r = r') = (decide (r.1 = r'.1) && decide (r.2 = r'.2)) by rw [← Bool.decide_and]; exact decide_eq_decide.mpr Prod.ext_iff, ← QfP (xs := r.2) (ys := r'.2) eT_at]
   by_cases z : r.2.length = r'.2.length
   ·rw [z, Nat.min_self]; simp
   ·rw [show (r.2.length == r'.2.length) = false from beq_false_of_ne z, show (r.2.length + 1 == r'.2.length + 1) = false from beq_false_of_ne (by omega)]; simp
  rw [e] at g
  exact g
theorem QjT {H : Hp} {P : Hp → Row → Addr → Prop} (pe : ∀ {r r' : Row} {a b : Addr}, P H r a → P H r' b → EqG H 8 (.ref a) (.ref b) (decide (r = r'))) {rs rs' : List Row} {as bs : List Addr} (h : Paired (P H) rs as) (h' : Paired (P H) rs' bs) :
  ∃ e : Nat → Bool, (∀ (j : Nat) (x y : V), (as.map V.ref)[j]? = some x → (bs.map V.ref)[j]? = some y → EqG H 8 x y (e j)) ∧ ((as.map V.ref).length == (bs.map V.ref).length && (List.range (as.map V.ref).length).all e) = decide (rs = rs') := by
 refine ⟨fun j => match rs[j]?, rs'[j]? with | some r, some r' => decide (r = r') | _, _ => false, fun j x y hx hy => ?_, ?_⟩
 ·rw [List.getElem?_map] at hx hy
  cases ha : as[j]? with
  | none => rw [ha] at hx; cases hx
  | some a =>
   cases hb : bs[j]? with
   | none => rw [hb] at hy; cases hy
   | some b =>
    rw [ha] at hx; rw [hb] at hy
    cases hx; cases hy
    obtain ⟨r, hr, pr⟩ := QM h ha
    obtain ⟨r', hr', pr'⟩ := QM h' hb
    simp only [hr, hr']
    exact pe pr pr'
 ·have al := QfP (xs := rs) (ys := rs') (e := fun j => match rs[j]?, rs'[j]? with | some r, some r' => decide (r = r') | _, _ => false) (fun j x y hx hy => by simp only [hx, hy])
  rw [← al, List.length_map, List.length_map, ← QB h, ← QB h']
  by_cases z : rs.length = rs'.length
  ·rw [z, Nat.min_self, Bool.and_comm]
  ·rw [show (rs.length == rs'.length) = false from beq_false_of_ne z]; simp
end LW
namespace LW
open PySem L2
def Z4 (w : List Int) : List (Key × V) := w.zipIdx.map fun q => ((Sum.inl q.1 : Key), V.int (q.2 : Nat))
theorem Qf1 (w : List Int) : (Z4 w).length = w.length := by simp [Z4]
theorem Qep {w : List Int} {j : Nat} {n : Int} (h : w[j]? = some n) : (Z4 w)[j]? = some (Sum.inl n, V.int (j : Nat)) := by
 unfold Z4
 rw [List.getElem?_map, List.getElem?_zipIdx, h]
 simp
theorem QcF (w : List Int) : (Z4 w).map (·.1) = w.map Sum.inl := by
 unfold Z4
 rw [List.map_map]
 refine List.ext_getElem? fun j => ?_
 rw [List.getElem?_map, List.getElem?_map, List.getElem?_zipIdx]
 cases w[j]? <;> rfl
theorem Qf0 {w : List Int} {n : Int} (nd : w.Nodup) (h : n ∈ w) : QbP (Z4 w) (Sum.inl n) = some (.int (idx w n)) := by
 obtain ⟨j, hj⟩ := List.getElem?_of_mem h
 rw [QcK nd hj]
 refine Qda ?_ (Qep hj)
 rw [QcF]
 exact List.pairwise_map.mpr (nd.imp fun ne e => ne (Sum.inl.inj e))
theorem Qha {a : Addr} {xs : List V} {tc : TT} {te : TE} {σ : St} {fr : List Nat} {H : Hp} {Q : VK} (Pv : Nat → List V → Hp → Prop) (h0 : Pv 0 [] H) (hz : ∀ i ys H, Pv i ys H → ys.length ≤ i) (hn : xs.length ≤ sizeLine)
  (hl : ∀ i ys H, i ≤ xs.length → Pv i ys H → H a = some (.lst xs))
  (hs : ∀ (i : Nat) (x : V) (ys : List V) (H : Hp) (p : Addr), xs[i]? = some x → Pv i ys H → H p = none → tc (some (.int (i : Int)) :: some x :: QbB σ fr) (upd H p (.tup [.int (i : Int), x])) fun b H2 => if b = true then te (some (.int (i : Int)) :: some x :: QbB σ fr) H2 fun y H3 => Pv (i + 1) (ys ++ [y]) H3 else Pv (i + 1) ys H2)
  (hd : ∀ ys H, Pv xs.length ys H → ∀ p, H p = none → Q (.ref p) (upd H p (.lst ys))) : Qhp fr tc te σ Q (Ite a) H := by
 refine ⟨fun i m ys H => m = xs.length - i ∧ i ≤ xs.length ∧ Pv i ys H, ⟨xs.length, by simp, Nat.zero_le _, h0⟩, ?_⟩
 rintro i m ys H ⟨rfl, hi, p⟩
 have q0 := hl i ys H hi p
 have hl := hz i ys H p
 by_cases hlt : i < xs.length
 ·refine .inr ⟨⟨xs, xs[i], q0, by simp [hlt]⟩, by omega, Pv (i + 1), fun ys' H' q => ⟨xs.length - (i + 1), by omega, rfl, hlt, q⟩, fun v H' y => ?_⟩
  obtain ⟨pp, x, hp, e1, e2, hx⟩ := y
  subst e1 e2
  exact ⟨pp, _, _, rfl, Qb, hs i x ys H pp (hx xs q0) p hp⟩
 ·have e : i = xs.length := by omega
  subst e
  exact .inl ⟨⟨xs, q0, Nat.le_refl _⟩, by omega, hd ys H p⟩
def Qek : Sp := fun vs H Q _ => ∃ (v : V) (d : Addr) (t : T) (f : Int → Int), vs = [v, .ref d] ∧ isT H t v ∧ (∀ n, t = .box n → DGet H d (.int n) (some (.int (f n)))) ∧ ∀ v' H', Same H H' → isT H' (ren f t) v' → Q v' H'
def Qhy (C : Addr) : Sp := fun vs H Q _ => ∃ (p d : Addr) (A : HA) (S : HS) (i : Nat) (b : Box) (f : Int → Int), vs = [.ref p, .int b.name, .ref d] ∧ HouseAt C H p A S ∧ S.boxes[i]? = some b ∧ b.row.length ≤ 900 ∧
 (∀ n, .box n ∈ b.row → ∀ H', Same H H' → DGet H' d (.int n) (some (.int (f n)))) ∧ ∀ a H', Same H H' → H a = none → RowT H' (b.kind, b.row.map (ren f)) a → Q (.ref a) H'
def QhE (C : Addr) : Sp := fun vs H Q _ => ∃ (p : Addr) (A : HA) (S : HS) (n : Int), vs = [.ref p, .int n] ∧ HouseAt C H p A S ∧ n ∈ names S ∧ Closed S.boxes ∧ S.boxes.length ≤ 900 ∧
 ∀ l as H', Same H H' → H l = none → H' l = some (.lst (as.map V.ref)) → Paired (RowT H') (QF S.boxes n) as → Q (.ref l) H'
end LW
namespace LW
open PySem L2
section
variable {P : Program} {w : World} {K : PySem.W.Frag} {mg : Str → Option Value} {base : Heap} {C : Addr}
theorem Qd7 {n : Nat} {f : Addr} {fd : FuncData} (F : Fun K "renamed" "renamed" Z3 f fd) (T : TX K mg C) (D1_ : DefOk P w K mg base n "box_name" ["thing"] (Qbh) [[]])
  (D2_ : DefOk P w K mg base n "box_thing" ["name"] (QaN) [[]]) :
  FnOk P w K mg base CX0 (n + 1) f fd ["thing", "new_names"] (Qek) := by
 obtain ⟨f1_, fd1_, n1_, k1_, J1_, c1_⟩ := D1_
 obtain ⟨f2_, fd2_, n2_, k2_, J2_, c2_⟩ := D2_
 refine F.ok QaM (fun vs H Q E h => ?_) (fun cdv A outer s H vs Q E hr h => ?_)
 ·obtain ⟨v, d, t, f', rfl, _⟩ := h
  rfl
 ·obtain ⟨v, d, t, f', rfl, tv, hg, k⟩ := h
  have hu := Q0 hr
  refine ⟨_, (Qe (QD (i := 2) QaM.nd rfl (Or.inl rfl) (Qm J1_ hr (by rfl) n1_ k1_ (c1_ [] (by simp)) .nil Qp (Qa (pv 0) Qf)))
   (Qe (Ze (Qdp (QgD (pv 2))) (Qh (Qu (pv 0))) QA)
   (Qh (Qu (Qm J2_ hr (by rfl) n2_ k2_ (c2_ [] (by simp)) .nil Qp (Qa (Zu hu (pv 1) (pv 2) (fun _ _ => rfl)) Qf)))))), ?_⟩
  refine ⟨_, rfl, v, t, rfl, tv, ?_⟩
  cases t with
  | non => exact ⟨_, rfl, _, rfl, Qcm ⟨_, rfl, k _ _ (Same.refl _) tv⟩⟩
  | num i => exact ⟨_, rfl, _, rfl, Qcm ⟨_, rfl, k _ _ (Same.refl _) tv⟩⟩
  | box n => exact ⟨_, rfl, _, rfl, Qbc ⟨_, rfl, _, rfl, d, _, rfl, hg n rfl, f' n, rfl, fun a ha => k _ _ (Same.new ha) ⟨a, rfl, Qb⟩⟩⟩
theorem Qe6 : QW (Qc Z8) ["house", "name", "new_names", "things"] (Q5 ((Qbu (QeA (Qj Z8) 0)))) "thing" ["new_names"] [2] :=
 ⟨by rfl, by decide +kernel, by decide +kernel, by decide +kernel, by rfl, by decide +kernel, by rfl, by decide +kernel⟩
theorem Qf4 {n : Nat} {f : Addr} {fd : FuncData} (F : Fun K "row_of" "row_of" Z8 f fd) (T : TX K mg C) (D1_ : DefOk P w K mg base n "things_in" ["house", "name"] (QeB C) [[]])
  (D2_ : DefOk P w K mg base n "renamed" ["thing", "new_names"] (Qek) [[]])
  (M3_ : MethOk P w K mg base C n "kind" ["self", "name"] (Qgp C) [[]]) :
  FnOk P w K mg base CX0 (n + 1) f fd ["house", "name", "new_names"] (Qhy C) := by
 obtain ⟨f1_, fd1_, n1_, k1_, J1_, c1_⟩ := D1_
 obtain ⟨f2_, fd2_, n2_, k2_, J2_, c2_⟩ := D2_
 obtain ⟨f3_, fd3_, m3_, G3_, b3_⟩ := M3_
 refine F.ok Qdk (fun vs H Q E h => ?_) (fun cdv A outer s H vs Q E hr h => ?_)
 ·obtain ⟨p, d, A', S, i, b, f', rfl, _⟩ := h
  rfl
 ·obtain ⟨p, d, A', S, i, b, f', rfl, hh, hb, hrow, hg, k⟩ := h
  have hu := Q0 hr
  refine ⟨_, (Qe (Qem (i := 3) Qe6 rfl Qdk.nd rfl (Or.inl rfl) (Z5 (Qm J1_ hr (by rfl) n1_ k1_ (c1_ [] (by simp)) .nil Qp (Qa (pv 0) (Qa (pv 1) Qf)))) (fun _ _ _ _ => ZW) (fun _ _ _ _ => (Qm J2_ hr (by rfl) n2_ k2_ (c2_ [] (by simp)) .nil Qp (Qa (pv 0) (Qa (pv 1) Qf)))))
   (Qh (Qu (QbS (Qa (Qz (pv 0) T.cl m3_ G3_ hr (b3_ [] (by simp)) .nil Qp (Qa (pv 1) Qf)) (Qa (QaP Qe5 (by rfl) T.g_tuple PyProof.Rows.boot_tuple (Qa (pv 3) Qf)) Qf)))))), ?_⟩
  refine ⟨_, rfl, _, rfl, p, A', S, i, b, rfl, hh, hb, hrow, fun l H1 s1 hl ht => ?_⟩
  obtain ⟨vs, hv, pr⟩ := ht
  have len := QB pr
  refine ⟨l, rfl, ⟨_, SqL.of hv⟩, ?_⟩
  refine QaT (xs := vs) (fun j ys H' => Same H1 H' ∧ Ths H' ((b.row.take j).map (ren f')) ys) ⟨Same.refl _, .nil⟩ ?_ (Nat.le_trans (by omega) (show 900 ≤ sizeLine by decide)) ?_ ?_ ?_
  ·rintro j ys H' ⟨_, h⟩
   rw [← QB h, List.length_map, List.length_take]; omega
  ·rintro j ys H' _ ⟨s, _⟩
   exact SqL.of (s _ _ hv)
  ·rintro j x ys H' hx ⟨s, h⟩
   obtain ⟨t, ht, tv⟩ := QM pr hx
   dsimp only [Qb3]
   refine Qcm ⟨_, rfl, _, rfl, x, d, t, f', rfl, tv.keep (Tups.of_same s), fun n' e => hg n' (by rw [← e]; exact List.mem_of_getElem? ht) H' (s1.trans s), fun v' H2 s2 tv' => ⟨s.trans s2, ?_⟩⟩
   rw [ZL ht, List.map_append]
   exact Qaj (Ths.keep (Tups.of_same s2) h) (.cons tv' .nil)
  rintro ys H2 ⟨s2, h⟩ l2 hl2
  rw [← len, List.take_length] at h
  have s3 := (s1.trans s2).trans (Same.new (o := .lst ys) hl2)
  have hh3 := hh.same s3
  refine ⟨_, rfl, p, A'.dx, _, rfl, hh3.ob, Qx (by decide +kernel), _, rfl, p, A', S, i, b, rfl, hh3, hb, _, rfl, l2, ys, rfl, .inl ⟨SqL.of Qb, fun t ht => ?_⟩⟩
  refine ⟨by show 2 ≤ sizeLine; decide, fun a ha => k a _ (s3.trans ((Same.new ht).trans (Same.new ha))) ((s3.trans (Same.new ht)).free ha) ⟨t, ys, Qb, Zt Qb ha, ?_⟩⟩
  exact Ths.keep (((Tups.new hl2).trans (Tups.new ht)).trans (Tups.new ha)) h
end
end LW
namespace LW
open PySem L2
section
variable {P : Program} {w : World} {K : PySem.W.Frag} {mg : Str → Option Value} {base : Heap} {C : Addr}
theorem QcE : QaK (Qc QO) ["house", "name", "names", "places"] (Q5 ((QjX 0 (Qbu (QeA (Qj QO) 1))))) "place" "found" [] [] :=
 ⟨by rfl, by decide +kernel, by decide +kernel, by decide +kernel, by rfl, by rfl, by decide +kernel, by rfl, by decide +kernel⟩
theorem QcD : QW (Qc QO) ["house", "name", "names", "places"] (Q5 ((Qgv (QeA (Qj QO) 2)))) "found" ["house", "places"] [0, 3] :=
 ⟨by rfl, by decide +kernel, by decide +kernel, by decide +kernel, by rfl, by decide +kernel, by rfl, by decide +kernel⟩
theorem QdA {n : Nat} {f : Addr} {fd : FuncData} (F : Fun K "walk_draft" "walk_draft" QO f fd) (T : TX K mg C) (gdict : mg "dict" = none) (D1_ : DefOk P w K mg base n "walk" ["house", "name"] (Qht C) [[]])
  (D2_ : DefOk P w K mg base n "row_of" ["house", "name", "new_names"] (Qhy C) [[]]) :
  FnOk P w K mg base CX0 (n + 1) f fd ["house", "name"] (QhE C) := by
 obtain ⟨f1_, fd1_, n1_, k1_, J1_, c1_⟩ := D1_
 obtain ⟨f2_, fd2_, n2_, k2_, J2_, c2_⟩ := D2_
 refine F.ok QaE (fun vs H Q E h => ?_) (fun cdv A outer s H vs Q E hr h => ?_)
 ·obtain ⟨p, A', S, n0, rfl, _⟩ := h
  rfl
 ·obtain ⟨p, A', S, n0, rfl, hh, hn, hcl, few, k⟩ := h
  have hu := Q0 hr
  refine ⟨_, (Qe (QD (i := 2) QaE.nd rfl (Or.inl rfl) (Qm J1_ hr (by rfl) n1_ k1_ (c1_ [] (by simp)) .nil Qp (Qa (pv 0) (Qa (pv 1) Qf))))
   (Qe (QD (i := 3) QaE.nd rfl (Or.inr rfl) (QaP (Qhb hr.hd) (by rfl) gdict PyProof.Rows.boot_dict (Qa (QiJ QcE rfl (Qdt (by rfl) T.g_enumerate (Qa (pv 2) Qf)) (fun _ _ _ _ => ZW) (fun _ _ _ _ => (QbS (Qa (pv 1) (Qa (pv 0) Qf))))) Qf)))
   (Qh (Qu (Qas QcD rfl (Z5 (pv 2)) (fun _ _ _ _ => ZW) (fun _ _ _ _ => (Qm J2_ hr (by rfl) n2_ k2_ (c2_ [] (by simp)) .nil Qp (Qa (pv 1) (Qa (pv 0) (Qa (pv 2) Qf)))))))))), ?_⟩
  have wlen := QaW hh.nm hcl hn
  have hin := Qex hh.nm hcl hn
  refine ⟨_, rfl, _, rfl, p, A', S, n0, rfl, hh, hn, hcl, few, fun l H1 s1 hl hL => ?_⟩
  have wcl : ∀ {i : Nat} {b : Box}, S.boxes[i]? = some b → b.name ∈ Qq S.boxes n0 → ∀ m, .box m ∈ b.row → m ∈ Qq S.boxes n0 := fun hb hm m h => QaX hh.nm hcl hn hb hm h
  have wnd : (Qq S.boxes n0).Nodup := Qbe
  have ed : QF S.boxes n0 = (Qq S.boxes n0).map (Qbn S.boxes (Qq S.boxes n0)) := rfl
  rw [ed] at k
  generalize Qq S.boxes n0 = ww at wlen hin hL wcl wnd k ⊢
  refine ⟨_, rfl, l, _, rfl, hL, ?_⟩
  refine Qha (xs := ww.map V.int) (fun i ys H' => Same H1 H' ∧ ∃ as : List Addr, ys = as.map V.ref ∧ Paired (fun (kv : Key × V) (a : Addr) => H' a = some (.tup [kV kv.1, kv.2])) ((Z4 ww).take i) as) ⟨Same.refl _, [], rfl, .nil⟩ ?_ (by rw [List.length_map]; exact Nat.le_trans (by omega) (show 900 ≤ sizeLine by decide)) ?_ ?_ ?_
  ·rintro i ys H' ⟨_, as, rfl, h⟩
   rw [List.length_map, ← QB h, List.length_take]; omega
  ·rintro i ys H' _ ⟨s, _⟩
   exact s _ _ hL
  ·rintro i x ys H' q hx ⟨s, as, rfl, h⟩ hq
   obtain ⟨m, hm, rfl⟩ : ∃ m, ww[i]? = some m ∧ x = .int m := by
    rw [List.getElem?_map] at hx
    cases e : ww[i]? with
    | none => rw [e] at hx; cases hx
    | some m => rw [e] at hx; exact ⟨m, rfl, (Option.some.inj hx).symm⟩
   dsimp only [Qb3]
   refine Qcm ⟨_, rfl, _, rfl, by show 2 ≤ sizeLine; decide, fun tp htp => ?_⟩
   refine ⟨(s.trans (Same.new hq)).trans (Same.new htp), as ++ [tp], by simp, ?_⟩
   rw [ZL (Qep hm)]
   exact Qaj (QQ (fun kv a _ _ z => Zt (Zt z hq) htp) h) (.cons Qb .nil)
  rintro ys H2 ⟨s2, as, rfl, h⟩ l2 hl2
  rw [List.length_map, show ww.length = (Z4 ww).length from (Qf1 ww).symm, List.take_length] at h
  refine ⟨l2, as, Z4 ww, rfl, Qb, QQ (fun kv a _ _ z => Zt z hl2) h, by rw [QcF]; exact QdE wnd, fun d hd => ?_⟩
  have s3 := ((s1.trans s2).trans (Same.new (o := .lst (as.map V.ref)) hl2)).trans (Same.new (o := .dK (Z4 ww)) hd)
  have hd3 : (upd (upd H2 l2 (.lst (as.map V.ref))) d (.dK (Z4 ww))) d = some (.dK (Z4 ww)) := Qb
  have hL3 : (upd (upd H2 l2 (.lst (as.map V.ref))) d (.dK (Z4 ww))) l = some (.lst (ww.map V.int)) := Zt (Zt (s2 _ _ hL) hl2) hd
  generalize upd (upd H2 l2 (.lst (as.map V.ref))) d (.dK (Z4 ww)) = H3 at s3 hd3 hL3 ⊢
  refine ⟨_, rfl, l, rfl, ⟨_, SqL.of hL3⟩, ?_⟩
  refine QaT (xs := ww.map V.int) (fun j ys H' => Same H3 H' ∧ ∃ bs : List Addr, ys = bs.map V.ref ∧ Paired (RowT H') ((ww.take j).map (Qbn S.boxes ww)) bs) ⟨Same.refl _, [], rfl, .nil⟩ ?_ (by rw [List.length_map]; exact Nat.le_trans (by omega) (show 900 ≤ sizeLine by decide)) ?_ ?_ ?_
  ·rintro j ys H' ⟨_, bs, rfl, h⟩
   rw [List.length_map, ← QB h, List.length_map, List.length_take]; omega
  ·rintro j ys H' _ ⟨s, _⟩
   exact SqL.of (s _ _ hL3)
  ·rintro j x ys H' hx ⟨s, bs, rfl, h⟩
   obtain ⟨m, hm, rfl⟩ : ∃ m, ww[j]? = some m ∧ x = .int m := by
    rw [List.getElem?_map] at hx
    cases e : ww[j]? with
    | none => rw [e] at hx; cases hx
    | some m => rw [e] at hx; exact ⟨m, rfl, (Option.some.inj hx).symm⟩
   obtain ⟨i, b, hb, rfl⟩ := QfF (S := S) (hin m (List.mem_of_getElem? hm))
   dsimp only [Qb3]
   refine Qcm ⟨_, rfl, _, rfl, _, rfl, p, d, A', S, i, b, idx ww, rfl, hh.same (s3.trans s), hb, (hcl b (List.mem_of_getElem? hb)).1, fun n' hn' H4 s4 => ?_, fun a H4 s4 ha hR => ⟨s.trans s4, bs ++ [a], by simp, ?_⟩⟩
   ·rw [← Qf0 wnd (wcl hb (List.mem_of_getElem? hm) n' hn')]
    exact DGet.k (k := Sum.inl n') (s4 _ _ (s _ _ hd3))
   ·rw [ZL hm, List.map_append]
    refine Qaj (QQ (fun r c _ _ z => z.same s4) h) (.cons ?_ .nil)
    show RowT H4 (Qbn S.boxes ww b.name) a
    rw [QaO hh.nm hb]
    exact hR
  ·rintro ys H4 ⟨s4, bs, rfl, h⟩ l4 hl4
   rw [List.length_map, List.take_length] at h
   exact k l4 bs _ ((s3.trans s4).trans (Same.new hl4)) ((s3.trans s4).free hl4) Qb (QQ (fun r c _ _ z => z.same (Same.new hl4)) h)
end
end LW
namespace LW
open PySem L2
theorem BOk.row {many : Int} {b : Box} {ts : List T} (h : BOk many b) (hl : ts.length = b.row.length) (ht : ∀ t ∈ ts, TOk many t) : BOk many { b with row := ts } := ⟨h.kd, by show Qap b.kind (ts.length : Int) = (ts.length : Int); rw [hl]; exact h.sz, by show ts.length ≤ 8; rw [hl]; exact h.le, ht⟩
section
variable {H0 H : Hp} {ak ar : Addr} {bs : List Box} {k : Nat} {b : Box}
theorem RecNew.put (h : RecNew H0 H ak ar bs) (hb : bs[k]? = some b) : ∃ fl a ws, H ar = some (.dK (Ql bs fl)) ∧ bs.length = fl.length ∧ fl[k]? = some a ∧ H a = some (.lst ws) ∧ Ths H b.row ws ∧ H0 a = none ∧
  ∀ (t : T) (v : V) (at_ : Nat), isT H t v → RecNew H0 (upd H a (.lst (ws.set at_ v))) ak ar (QaD bs k at_ t) := by
 obtain ⟨fl, hk, hr, pf, nd, fr⟩ := h
 obtain ⟨a, ha, ws, hw, htw⟩ := ZK pf hb
 have ham := List.mem_of_getElem? ha
 refine ⟨fl, a, ws, hr, QB pf, ha, hw, htw, fr a (by simp [ham]), fun t v at_ tv => ?_⟩
 have ndf : fl.Nodup := (List.nodup_cons.mp (List.nodup_cons.mp nd).2).2
 have tu : Tups H (upd H a (.lst (ws.set at_ v))) := Tups.upd hw (by intro xs z; cases z)
 refine ⟨fl, ?_, ?_, QeJ pf ndf hb ha htw tv tu Qb (fun c _ n => Qg n), nd, fr⟩
 ·rw [Qg (QE hk hw (by intro z; cases z)), hk, Qa1]
 ·rw [Qg (QE hr hw (by intro z; cases z)), hr, Qa2 (Qak _ _ _ _)]
end
end LW
namespace LW
open PySem L2
section
variable {P : Program} {w : World} {K : PySem.W.Frag} {mg : Str → Option Value} {base : Heap} {C : Addr}
def Qhx : Sp := fun vs H Q _ => ∃ (ak ar : Addr) (bs : List Box) (fl : List Addr) (n : Int), vs = [.ref ak, .ref ar, .int n] ∧ H ak = some (.dK (Qr bs)) ∧ RowAt H ar bs fl ∧ (bs.map (·.name)).Nodup ∧ n ∈ bs.map (·.name) ∧ Closed bs ∧ bs.length ≤ 900 ∧
 ∀ l as H', Same H H' → H l = none → H' l = some (.lst (as.map V.ref)) → Paired (RowL H') (QF bs n) as → Q (.ref l) H'
theorem RowL.ne {H : Hp} {r : Row} {a lm : Addr} {as : List Addr} (h : RowL H r a) (hm : H lm = some (.lst (as.map V.ref))) : a ≠ lm := fun e => by
 subst e
 obtain ⟨vs, h1, _⟩ := h
 rw [hm] at h1
 have h1 := HO.lst.inj (Option.some.inj h1)
 cases as with
 | nil => cases h1
 | cons x r => cases h1
theorem Qec {n : Nat} {f : Addr} {fd : FuncData} (F : Fun K "_law_shape" "_law_shape" ZS f fd) (T : TX K mg C) (D1_ : DefOk P w K mg base n "_law_walk" ["rows", "name"] (QfV) [[]]) :
  FnOk P w K mg base CX0 (n + 1) f fd ["kinds", "rows", "name"] (Qhx) := by
 obtain ⟨f1_, fd1_, n1_, k1_, J1_, c1_⟩ := D1_
 refine F.ok Zd (fun vs H Q E h => ?_) (fun cdv A outer s H vs Q E hr h => ?_)
 ·obtain ⟨ak, ar, bs, fl, n0, rfl, _⟩ := h
  rfl
 ·obtain ⟨ak, ar, bs, fl, n0, rfl, hk, ⟨hR, pf⟩, nd, hn, hcl, few, k⟩ := h
  have hu := Q0 hr
  refine ⟨_, (Qe (QD (i := 3) Zd.nd rfl (Or.inl rfl) (Qm J1_ hr (by rfl) n1_ k1_ (c1_ [] (by simp)) .nil Qp (Qa (pv 1) (Qa (pv 2) Qf))))
   (Qe (QD (i := 4) Zd.nd rfl (Or.inl rfl) (ZY Qf))
   (Qe (ZX PassesOwn.never rfl (Z5 (pv 3)) (ZH (i := 5) Zd.nd rfl (Or.inl rfl))
   (Qe (QD (i := 6) Zd.nd rfl (Or.inl rfl) (ZY (Qa (Zu hu (pv 0) (pv 5) (fun _ _ => rfl)) Qf)))
   (Qe (ZX PassesOwn.never rfl (Z5 (Zu hu (pv 1) (pv 5) (fun _ _ => rfl))) (ZH (i := 7) Zd.nd rfl (Or.inl rfl))
   (Qe (Ze (Z1 (Qv Qay (by rfl) T.g_isi PyProof.Rows.boot_isinstance (Qa (pv 7) (Qa (Qa0 (v := .ty "tuple") (by rfl) T.g_tuple PyProof.Rows.boot_tuple rfl) Qf)))) (Qh (QD (i := 7) Zd.nd rfl (Or.inl rfl) (QbS (Qa Qcf (Qa (Qfs PySem.F.plainAttrs_list PySem.F.slot_list_index PySem.F.type_list_index Qh2 (pv 3) (Qa (QX Zp (pv 7) Qi (fun _ _ => rfl)) Qf)) Qf))))) QA)
   (Qh (QH (Qfs PySem.F.plainAttrs_list PySem.F.slot_list_append PySem.F.type_list_append QaH (pv 6) (Qa (pv 7) Qf))))))
   (Qh (QH (Qfs PySem.F.plainAttrs_list PySem.F.slot_list_append PySem.F.type_list_append QaH (pv 4) (Qa (pv 6) Qf)))))))
   (Qh (Qu (pv 4)))))), ?_⟩
  have hfl := QB pf
  refine ⟨_, rfl, _, rfl, ar, bs, fl, n0, rfl, ⟨hR, pf⟩, nd, hn, hcl, few, fun lw H1 s1 hlw hW => ?_⟩
  have wlen := QaW nd hcl hn
  have hin := Qex nd hcl hn
  have wcl : ∀ {i : Nat} {b : Box}, bs[i]? = some b → b.name ∈ Qq bs n0 → ∀ m, .box m ∈ b.row → m ∈ Qq bs n0 := fun hb hm m h => QaX nd hcl hn hb hm h
  have wnd : (Qq bs n0).Nodup := Qbe
  have ed : QF bs n0 = (Qq bs n0).map (Qbn bs (Qq bs n0)) := rfl
  rw [ed] at k
  generalize Qq bs n0 = ww at wlen hin hW wcl wnd k ⊢
  refine ⟨Nat.zero_le _, fun lm hlm => ?_⟩
  have hlm0 : H lm = none := s1.free hlm
  have wm : lw ≠ lm := Qd hW hlm
  refine ⟨_, rfl, lw, rfl, ⟨_, SqL.of (Zt hW hlm)⟩, ?_⟩
  refine Qax (K := K) (xs := ww.map V.int) (fun i σ H' => ∃ v_other v_line v_thing, σ = [some (.ref ak), some (.ref ar), some (.int n0), some (.ref lw), some (.ref lm), v_other, v_line, v_thing] ∧ Same H H' ∧ H' lw = some (.lst (ww.map V.int)) ∧ ∃ as : List Addr, H' lm = some (.lst (as.map V.ref)) ∧ Paired (RowL H') ((ww.take i).map (Qbn bs ww)) as) ?_ ?_ ?_ ?_
  ·exact ⟨_, _, _, rfl, s1.trans (Same.new hlm), Zt hW hlm, [], Qb, .nil⟩
  ·rintro i σ H' _ ⟨_, _, _, rfl, _, h, _⟩
   exact SqL.of h
  ·rintro i y σ H2 hy ⟨v1, v2, v3, rfl, s2, hW2, as, hM2, hP2⟩
   obtain ⟨m, hm, rfl⟩ : ∃ m, ww[i]? = some m ∧ y = .int m := by
    rw [List.getElem?_map] at hy
    cases e : ww[i]? with
    | none => rw [e] at hy; cases hy
    | some m => rw [e] at hy; exact ⟨m, rfl, (Option.some.inj hy).symm⟩
   obtain ⟨b, hbm, rfl⟩ := List.mem_map.mp (hin m (List.mem_of_getElem? hm))
   obtain ⟨ib, hb⟩ := List.getElem?_of_mem hbm
   obtain ⟨fa, hfa, vs, hv, htv⟩ := ZK pf hb
   have hrow := (hcl b hbm).1
   have gk : DGet H2 ak (.int b.name) (some (.str b.kind)) := by rw [← kindAt nd hb]; exact DGet.k (k := Sum.inl b.name) (s2 _ _ hk)
   refine ⟨_, rfl, _, rfl, ak, .str b.kind, rfl, gk, by show 1 ≤ sizeLine; decide, fun ll hll => ?_⟩
   have hll0 : H ll = none := s2.free hll
   have gr : DGet (upd H2 ll (.lst [.str b.kind])) ar (.int b.name) (some (.ref fa)) := by rw [← rowAt hfl nd hb hfa]; exact DGet.k (k := Sum.inl b.name) (Zt (s2 _ _ hR) hll)
   have hv2 := s2 _ _ hv
   refine ⟨_, rfl, _, rfl, ar, .ref fa, rfl, gr, fa, rfl, ⟨_, SqL.of (Zt hv2 hll)⟩, ?_⟩
   have lfa : ll ≠ fa := (Qd hv2 hll).symm
   have llw : ll ≠ lw := (Qd hW2 hll).symm
   have llm : ll ≠ lm := (Qd hM2 hll).symm
   refine Qax (K := K) (xs := vs) (fun j σ H' => ∃ v_thing, σ = [some (.ref ak), some (.ref ar), some (.int n0), some (.ref lw), some (.ref lm), some (.int b.name), some (.ref ll), v_thing] ∧ Same H2 H' ∧ ∃ us, H' ll = some (.lst (.str b.kind :: us)) ∧ Ths H' ((b.row.take j).map (ren (idx ww))) us) ?_ ?_ ?_ ?_
   ·exact ⟨_, rfl, Same.new hll, [], Qb, .nil⟩
   ·rintro j σ H' _ ⟨_, rfl, s, _⟩
    exact SqL.of (s _ _ hv2)
   ·rintro j x σ H3 hx ⟨v, rfl, s3, us, hL3, hT3⟩
    obtain ⟨t, ht, tv⟩ := QM htv hx
    have tv3 : isT H3 t x := tv.keep (Tups.of_same (s2.trans s3))
    have hul : us.length ≤ 900 := by rw [← QB hT3, List.length_map, List.length_take]; omega
    have go : ∀ (x' : V) (H4 : Hp), Same H3 H4 → H4 ll = some (.lst (.str b.kind :: us)) → isT H4 (ren (idx ww) t) x' → ∀ H5, H5 = upd H4 ll (.lst ((.str b.kind :: us) ++ [x'])) → Same H2 H5 ∧ ∃ us', H5 ll = some (.lst (.str b.kind :: us')) ∧ Ths H5 ((b.row.take (j + 1)).map (ren (idx ww))) us' := fun x' H4 s4 h4 t4 H5 e5 => by
     subst e5
     refine ⟨fun c o e => ?_, us ++ [x'], by rw [Qb]; rfl, ?_⟩
     ·rw [Qg (Qd e hll)]; exact s4 _ _ (s3 _ _ e)
     ·rw [ZL ht, List.map_append]
      have tu : Tups H4 (upd H4 ll (.lst ((.str b.kind :: us) ++ [x']))) := Tups.upd h4 (by intro xs z; cases z)
      exact Qaj (Ths.keep ((Tups.of_same s4).trans tu) hT3) (.cons (t4.keep tu) .nil)
    have small : (V.str b.kind :: us).length < sizeLine := QP (by simp; omega)
    cases t with
    | non =>
     have e : x = .non := tv3
     subst e
     refine ⟨_, rfl, _, "tuple", _, false, rfl, .non, Qgl K, _, rfl, Qbc ⟨_, rfl, .inl ⟨rfl, _, SqL.of hL3⟩, _, rfl, ll, _, _, rfl, rfl, hL3, small, ?_⟩⟩
     exact ⟨_, rfl, go _ H3 (Same.refl _) hL3 rfl _ rfl⟩
    | num i' =>
     have e : x = .int i' := tv3
     subst e
     refine ⟨_, rfl, _, "tuple", _, false, rfl, .int i', Qgm K, _, rfl, Qbc ⟨_, rfl, .inl ⟨rfl, _, SqL.of hL3⟩, _, rfl, ll, _, _, rfl, rfl, hL3, small, ?_⟩⟩
     exact ⟨_, rfl, go _ H3 (Same.refl _) hL3 rfl _ rfl⟩
    | box nn =>
     obtain ⟨bb, rfl, hbb⟩ := tv3
     have hnn : nn ∈ ww := wcl hb (List.mem_of_getElem? hm) nn (List.mem_of_getElem? ht)
     have hjx : ww[ww.idxOf nn]? = some nn := by rw [List.getElem?_eq_getElem (List.idxOf_lt_length_of_mem hnn)]; exact congrArg some (List.getElem_idxOf _)
     have hW3 := s3 _ _ hW2
     refine ⟨_, rfl, _, "tuple", _, true, rfl, TyOf.tup hbb, Qaw _ _, _, rfl, Qcm ⟨_, rfl, .inl ⟨rfl, _, SqL.of hW3⟩, _, rfl, bb, _, 1, .int nn, rfl, rfl, SqT.of hbb, rfl, lw, ww, nn, ww.idxOf nn, rfl, rfl, hW3, hjx, fun i2 hi2 e => ?_, ?_, by show 2 ≤ sizeLine; decide, fun tp htp => ?_⟩⟩
     ·have := QcH wnd e hjx; omega
     ·have := List.idxOf_lt_length_of_mem hnn; omega
     ·have hL4 := Zt (o := .tup [.str "box", .int (ww.idxOf nn : Nat)]) hL3 htp
      refine ⟨_, rfl, .inl ⟨rfl, _, SqL.of hL4⟩, _, rfl, ll, _, _, rfl, rfl, hL4, small, ?_⟩
      exact ⟨_, rfl, go _ _ (Same.new htp) hL4 ⟨tp, rfl, Qb⟩ _ rfl⟩
   ·rintro σ H3 ⟨v, rfl, s3, us, hL3, hT3⟩
    rw [← QB htv, List.take_length] at hT3
    have hM3 := s3 _ _ hM2
    refine ⟨_, rfl, .inl ⟨rfl, _, SqL.of hM3⟩, _, rfl, lm, _, _, rfl, rfl, hM3, by rw [List.length_map, ← QB hP2, List.length_map, List.length_take]; exact QP (by omega), ?_⟩
    have tu : Tups H3 (upd H3 lm (.lst (as.map V.ref ++ [.ref ll]))) := Tups.upd hM3 (by intro xs z; cases z)
    refine ⟨_, _, _, rfl, fun c o e => ?_, by rw [Qg wm]; exact s3 _ _ hW2, as ++ [ll], by rw [Qb]; simp, ?_⟩
    ·rw [Qg (Qd e hlm0)]; exact s3 _ _ (s2 _ _ e)
    ·rw [ZL hm, List.map_append]
     refine Qaj (QQ (fun r c _ _ z => ?_) hP2) (.cons ?_ .nil)
     ·have z3 := z.same s3
      obtain ⟨vs', z1, z2⟩ := z3
      exact ⟨vs', by rw [Qg ((z.same s3).ne hM3)]; exact z1, Ths.keep tu z2⟩
     ·rw [QaO nd hb]
      exact ⟨us, by rw [Qg llm]; exact hL3, Ths.keep tu hT3⟩
  ·rintro σ H2 ⟨v1, v2, v3, rfl, s2, hW2, as, hM2, hP2⟩
   rw [List.length_map, List.take_length] at hP2
   exact ⟨_, rfl, k lm as H2 s2 hlm0 hM2 hP2⟩
end
end LW
namespace L2
open PySem PySem.Spec PyProof.Rows
theorem Qfx : ∀ (f n r : Nat), r ≤ 1 → minRun' f n r ≤ n + r
 | 0, n, r, _ => Nat.le_refl _
 | f + 1, n, r, hr => by
  rw [minRun'_succ]
  by_cases h : n < 64
  ·rw [if_pos h]
   exact Nat.le_refl _
  ·rw [if_neg h]
   have := Qfx f (n / 2) (max r (n % 2)) (by omega)
   omega
section
variable {prog : Program} {w : World} {A : Around} {E : Value → Shared → Prop} {s : Shared} {a₀ : Array Keyed}
theorem Qjx {st : SortSt} {Q : Unit → SortSt → Prop} (h0 : IntKeys a₀) (hB : SBase a₀ st) (h2 : 2 ≤ a₀.size) (hs : SortedTo (arrOf st) a₀.size)
  (h : ∀ st', (arrOf st').Perm a₀ → failedOf st' = none → SortedTo (arrOf st') a₀.size → Q () st') : wpS (model prog w) A E s sortRuns' Q st := by
 rw [sortRuns'_eq]
 refine wpS_bind (wpS_get ?_)
 dsimp only
 have hmr : minRun' a₀.size a₀.size 0 ≤ a₀.size := Qfx _ _ 0 (by omega)
 simp only [hB.size]
 generalize minRun' a₀.size a₀.size 0 = mr at hmr ⊢
 refine wpS_bind (wpS_mono (wpS_forRange
  (I := fun x c st' => (x = 0 ∧ c = (none, 0) ∧ st' = st) ∨ (1 ≤ x ∧ c = (none, a₀.size) ∧ SDone a₀ st'))
  (Q := fun c st' => c = (none, a₀.size) ∧ SDone a₀ st') ?_ ?_ (.inl ⟨rfl, rfl, rfl⟩)) ?_)
 ·rintro x c st' _ hx (⟨rfl, rfl, rfl⟩ | ⟨hx1, rfl, hD⟩)
  ·dsimp only
   rw [if_neg (by omega)]
   simp only [Nat.sub_zero, Nat.zero_add]
   rw [countRun0_eq]
   refine wpS_bind (wpS_bind (wpS_ascLoop h0 (Nat.le_refl _) (Nat.le_refl 1) (by omega) hB (fun i j hij hj => hs i j hij (by omega)) fun n hn1 hn2 hsn hor => ?_))
   have hn : n = a₀.size := by
    rcases hor with z | z
    ·exact z
    ·rcases Nat.lt_or_ge n a₀.size with w | w
     ·exact absurd (hs (n - 1) n (by omega) w) (Int.not_le.mpr z)
     ·omega
   subst hn
   dsimp only
   rw [if_pos (by simp)]
   refine wpS_pure ?_
   dsimp only
   rw [if_neg (by omega)]
   refine wpS_bind (wpS_get ?_)
   have hb : (pendingOf st').back? = none := by rw [hB.pend]; rfl
   rw [hb]
   dsimp only
   exact wpS_bind (wpS_modify (wpS_pure (.inr ⟨by omega, rfl, hB.done hs⟩)))
  ·dsimp only
   rw [if_pos (Nat.le_refl _)]
   exact wpS_pure ⟨rfl, hD⟩
 ·rintro c st' (⟨hx, _, _⟩ | ⟨_, hc, hD⟩)
  ·omega
  ·exact ⟨hc, hD⟩
 ·rintro c st' ⟨rfl, hD⟩
  dsimp only
  refine wpS_bind (wpS_mono (wpS_forRange (I := fun _ c st2 => st2 = st' ∧ c = (none, ())) (Q := fun c st2 => st2 = st' ∧ c = (none, ())) ?_ (fun _ _ z => z) ⟨rfl, rfl⟩) ?_)
  ·rintro x c st2 _ _ ⟨rfl, rfl⟩
   refine wpS_bind (wpS_get ?_)
   rw [if_pos (by rw [hD.2.2.1]; exact Nat.le_refl 1)]
   exact wpS_pure ⟨rfl, rfl⟩
  ·rintro c st2 ⟨rfl, rfl⟩
   exact wpS_pure (h _ hD.1 hD.2.1 hD.2.2.2)
theorem rises {vs : List Value} {ns : List Int} (hI : IntsAre vs ns) (hp : ns.Pairwise (· ≤ ·)) : SortedTo (pairsOf vs) (pairsOf vs).size := by
 intro i j hij hj
 rw [pairsOf_size] at hj
 have kk : ∀ (k : Nat) (hk : k < vs.length), K (pairsOf vs) k = numOf vs[k] := fun k hk => by
  rw [K_eq (by rw [pairsOf_size]; exact hk)]
  simp [pairsOf]
 rw [kk i (by omega), kk j hj]
 have e := hI.nums
 subst e
 rcases Nat.lt_or_ge i j with z | z
 ·have := List.pairwise_iff_getElem.mp hp i j (by rw [List.length_map]; omega) (by rw [List.length_map]; omega) z
  simpa using this
 ·have : i = j := by omega
  subst this
  exact Int.le_refl _
theorem QiF {a : Addr} {vs : List Value} {ns : List Int} {n : Nat} {P : Fin → Shared → Prop} (ho : s.heap.get? a = some (seqObj "list" vs.toArray n))
  (hI : IntsAre vs ns) (hp : ns.Pairwise (· ≤ ·)) (h2 : 2 ≤ vs.length) (hz : vs.length ≤ sizeLine)
  (h : ∀ (out : Array Value) (ns' : List Int), IntsAre out.toList ns' → ns'.Perm ns → ns'.Pairwise (· ≤ ·) → P (.done (.ret .none)) { s with heap := sortedHeap s.heap a vs out }) :
  wpAny (model prog w) A (Builtin.«list.sort» ⟨[.ref a], []⟩) P E s := by
 rw [list_sort_plain]
 have ha : a < s.heap.objs.size := Heap.lt_size ho
 have hsz : vs.toArray.size = vs.length := by simp
 refine wpAny_bind (listItems_at ho rfl ?_)
 refine wpAny_bind (listUpdate_at ho rfl ?_ (hsz := by rw [hsz]; omega) (hsz2 := Nat.zero_le _))
 obtain ⟨e1, ho1⟩ : ∃ e1, (s.heap.update a (Obj.mapSeq fun _ => #[])).get? a = some (seqObj "list" #[] e1) := ⟨_, get?_update_seq ho (fun _ => #[])⟩
 refine wpAny_bind (seqEpoch_at ho1 rfl ?_)
 refine wpAny_bind (wpAny_newTuple ?_ (by simpa using hz))
 refine wpAny_bind (wpAny_newList ?_)
 refine wpAny_holding ?_
 have ho6 : (((s.heap.update a (Obj.mapSeq fun _ => #[])).push (seqObj "tuple" vs.toArray 0)).push (seqObj "list" #[] 0)).get? a = some (seqObj "list" #[] e1) := by
  rw [Heap.get?_push_ne _ _ _ (by rw [size_push', Heap.size_update]; exact Nat.ne_of_lt (Nat.lt_succ_of_lt ha)), Heap.get?_push_ne _ _ _ (by rw [Heap.size_update]; exact Nat.ne_of_lt ha)]
  exact ho1
 show wpAny (model prog w) A _ P E { s with heap := ((s.heap.update a (Obj.mapSeq fun _ => #[])).push (seqObj "tuple" vs.toArray 0)).push (seqObj "list" #[] 0) }
 dsimp only
 rw [if_neg (by omega), if_neg (by omega)]
 obtain ⟨v1, v2, Qfn, rfl⟩ : ∃ v1 v2 Qfn, vs = v1 :: v2 :: Qfn := by
  match vs, h2 with
  | v1 :: v2 :: Qfn, _ => exact ⟨v1, v2, Qfn, rfl⟩
 rw [keyKind_ints hI]
 refine wpAny_bind (wpAny_pure ?_)
 refine wpAny_bind (wpAny_mono (Qjx (a₀ := pairsOf (v1 :: v2 :: Qfn)) (st := SortSt.mk' oneType' (pairsOf (v1 :: v2 :: Qfn)) #[] 7 none)
  (Q := fun _ st' => (arrOf st').Perm (pairsOf (v1 :: v2 :: Qfn)) ∧ failedOf st' = none ∧ SortedTo (arrOf st') (pairsOf (v1 :: v2 :: Qfn)).size)
  hI.intKeys ⟨Array.Perm.refl _, rfl, rfl, rfl⟩ (by rw [pairsOf_size]; exact h2) (rises hI hp) fun st' a1 a2 a3 => ⟨a1, a2, a3⟩) ?_ fun _ _ e => e)
 rintro ⟨⟨⟩, st'⟩ s' ⟨rfl, hq, hf, hs⟩
 dsimp only
 refine wpAny_bind (seqEpoch_at ho6 rfl ?_)
 refine wpAny_bind (listUpdate_at ho6 rfl ?_ (hsz2 := by refine Nat.le_trans (Nat.le_of_eq ((Array.size_map ..).trans (hq.size_eq.trans (pairsOf_size _)))) ?_; omega))
 rw [hf]
 simp only [bne_self_eq_false, Bool.false_eq_true, if_false]
 obtain ⟨ns', w1, w2, w3⟩ := sorted_out hI hq hs
 exact wpAny_pure (h _ ns' w1 w2 w3)
end
end L2
namespace L2
open PySem PySem.Spec PyProof.Rows
theorem Qi0 {K : PySem.W.Frag} {a : Addr} {xs : List V} {tc : TT} {te : TE} {σ : St} {fr : List Nat} {H : Hp} {Q : VK} (Pv : Nat → List V → Hp → Prop) (h0 : Pv 0 [] H) (hz : ∀ i ys H, Pv i ys H → ys.length ≤ i) (hn : xs.length ≤ sizeLine)
  (hl : ∀ i ys H, i ≤ xs.length → Pv i ys H → SqT K H a xs)
  (hs : ∀ (i : Nat) (x : V) (ys : List V) (H : Hp), xs[i]? = some x → Pv i ys H → tc (some x :: QbB σ fr) H fun b H2 => if b = true then te (some x :: QbB σ fr) H2 fun y H3 => Pv (i + 1) (ys ++ [y]) H3 else Pv (i + 1) ys H2)
  (hd : ∀ ys H, Pv xs.length ys H → ∀ p, H p = none → Q (.ref p) (upd H p (.lst ys))) : Qgk fr tc te σ Q (Itt K a) H := by
 refine ⟨fun i m ys H => m = xs.length - i ∧ i ≤ xs.length ∧ Pv i ys H, ⟨xs.length, by simp, Nat.zero_le _, h0⟩, ?_⟩
 rintro i m ys H ⟨rfl, hi, p⟩
 have q0 := hl i ys H hi p
 have hl := hz i ys H p
 by_cases hlt : i < xs.length
 ·refine .inr ⟨⟨xs, xs[i], q0, by simp [hlt]⟩, by omega, Pv (i + 1), fun ys' H' q => ⟨xs.length - (i + 1), by omega, rfl, hlt, q⟩, fun v H' y => ?_⟩
  obtain ⟨e, y⟩ := y
  subst e
  exact hs i v ys _ (y xs q0) p
 ·have e : i = xs.length := by omega
  subst e
  exact .inl ⟨⟨xs, q0, Nat.le_refl _⟩, by omega, hd ys H p⟩
theorem Qju {prog : Program} {w : World} {A : Around} {E : Value → Shared → Prop} {s : Shared} {a : Addr} {vs : List Value} {ns : List Int} {n : Nat} {P : Fin → Shared → Prop} (ho : s.heap.get? a = some (seqObj "list" vs.toArray n))
  (hI : IntsAre vs ns) (hp : ns.Pairwise (· ≤ ·)) (hz : vs.length ≤ sizeLine)
  (h : ∀ (out : Array Value) (ns' : List Int), IntsAre out.toList ns' → ns'.Perm ns → ns'.Pairwise (· ≤ ·) → P (.done (.ret .none)) { s with heap := sortedHeap s.heap a vs out }) :
  wpAny (model prog w) A (Builtin.«list.sort» ⟨[.ref a], []⟩) P E s := by
 by_cases h2 : 2 ≤ vs.length
 ·exact QiF ho hI hp h2 hz h
 ·exact list_sort_tree ho hI (by omega) h
section
variable {X : Cx}
theorem Qa4 (hc : X.A.handled = none) : Qc4 X (.builtin "sorted") (fun xs H Q => ∃ (d : Addr) (kvs : List (Key × V)) (ns : List Int), xs = [.ref d] ∧ H d = some (.dK kvs) ∧ kvs.map (·.1) = ns.map (fun n => (Sum.inl n : Key)) ∧ ns.Pairwise (· < ·) ∧
  ∀ (p : Addr), H p = none → Q (.ref p) (upd H p (.lst (ns.map V.int)))) := by
 intro pins s σ H xs us Q I r h
 obtain ⟨d, kvs, ns, rfl, hd, hk, hup, q⟩ := h
 obtain ⟨u, rfl, ru⟩ := Qey r
 cases ru
 obtain ⟨hz, hS, vs, rel, dd⟩ := QiZ I.hok hd
 obtain ⟨ep, hat⟩ := dd.dictAt
 have hlen : kvs.length = vs.length := rel.length
 have hkl : kvs.length = ns.length := by have := congrArg List.length hk; simpa using this
 have hks : vs.map (·.1) = ns.map (fun n => (Sum.inl n : Key)) := by rw [← hk]; exact (KV.keys rel).symm
 refine Calls.call_function_entry kind_sorted plain_sorted entry_sorted (args_sorted1 _) ?_
 unfold Builtin.«sorted»
 refine wpAny_bind (m := checkCount "sorted" 1 1 _) (wpAny_pure ?_)
 refine wpAny_bind (PySem.W.kdu_collect (A := X.A.in1) (PySem.W.kdl_dict (knd := Zf X.prog X.w) (kvs := vs) (ep := ep) hS) hc hat (by rw [← hlen]; exact hz) fun h' tk acc hkp hacc => ?_)
 have hal : acc.toList.length = ns.length := by rw [Array.length_toList, hacc.1, ← hlen, hkl]
 have hI : IntsAre acc.toList ns := Qcz hal fun i n v e1 e2 => by
  obtain ⟨k, x, e3, e4⟩ := hacc.2 i v (by rw [← Array.getElem?_toList]; exact e2)
  have e5 : (vs.map (·.1))[i]? = some k := by rw [List.getElem?_map, e3]; rfl
  rw [hks, List.getElem?_map, e1] at e5
  have e5 : (Sum.inl n : Key) = k := Option.some.inj e5
  subst e5
  have e4 : Value.isInt n v = true := e4
  obtain ⟨t, e⟩ := Value.isInt_shape e4
  exact ⟨t, e⟩
 have hz' : acc.toList.length ≤ sizeLine := by rw [hal, ← hkl]; exact hz
 refine wpAny_bind (wpAny_newList ?_ hz')
 have hoL : (h'.push (seqObj "list" acc.toList.toArray 0)).get? h'.objs.size = some (seqObj "list" acc.toList.toArray 0) := Heap.get?_push_size _ rfl
 refine wpAny_bind (wpAny_holding (wpAny_call_entry slot_list_sort ⟨_, hoL, rfl⟩ entry_list_sort (Qju (s := { s with heap := h'.push (seqObj "list" acc.toList.toArray 0), toks := tk }) hoL hI (hup.imp fun z => Int.le_of_lt z) hz' fun out ns' a1 a2 a3 => ⟨_, rfl, ?_⟩) (args_list_sort _)))
 refine wpAny_pure ⟨_, rfl, ?_⟩
 have en := LW.perm_asc a2 a3 hup
 subst en
 obtain ⟨e, eo⟩ := sortedHeap_at (out := out) hoL
 have hfree : s.heap.get? h'.objs.size = none := by
  cases z : s.heap.get? h'.objs.size with
  | none => rfl
  | some o0 => exact absurd (Heap.lt_size (hkp _ o0 z)) (Nat.lt_irrefl _)
 refine ⟨.ref h'.objs.size, _, I.laidN (t' := tk) (o := .lst (ns'.map V.int)) (fun b ob q => ?_) hfree ?_, rfl, q _ (I.hok.freeAt hfree)⟩
 ·rw [sortedHeap_old (Nat.ne_of_lt (Heap.lt_size (hkp b ob q))) (by rw [size_push']; exact Nat.lt_succ_of_lt (Heap.lt_size (hkp b ob q)))]
  exact Heap.get?_push_of_some _ (hkp b ob q)
 ·exact ⟨by rw [List.length_map, ← hkl]; exact hz, out.toList, e, Qcv a1, by simpa using eo⟩
end
end L2
namespace LW
open PySem L2
def Qei (z : Int) (rows : List Row) : List Box := rows.mapIdx fun j r => ⟨z + 1 + (j : Int), r.1, r.2.map (ren fun i => z + 1 + i)⟩
theorem Qc7 (z : Int) (rows : List Row) : (Qei z rows).length = rows.length := by simp [Qei]
theorem QeV {z : Int} {rows : List Row} {j : Nat} {r : Row} (h : rows[j]? = some r) : (Qei z rows)[j]? = some ⟨z + 1 + (j : Int), r.1, r.2.map (ren fun i => z + 1 + i)⟩ := by simp [Qei, h]
theorem Qcx (z : Int) (rows : List Row) : (Qei z rows).map (·.name) = Qy (z + 1) rows.length := by
 apply List.ext_getElem?
 intro j
 by_cases h : j < rows.length
 ·rw [List.getElem?_map, QeV (List.getElem?_eq_getElem h), Zr h]; rfl
 ·rw [List.getElem?_eq_none (by rw [List.length_map, Qc7]; omega), List.getElem?_eq_none (by rw [Qo]; omega)]
def HS.grown (S : HS) (rows : List Row) : HS := { S with last := S.last + (rows.length : Int), boxes := S.boxes ++ Qei S.last rows }
def HS.gave (S : HS) (rows : List Row) (slot : Nat) : HS := { S.grown rows with slots := S.slots.set slot (.box (S.last + 1)) }
theorem Qer {bs : List Box} {b : Box} (h : b.name ∉ bs.map (·.name)) : QbZ (Qr bs) (Sum.inl b.name : Key) (V.str b.kind) = Qr (bs ++ [b]) := by
 rw [QbD _ (Qbw ?_)]
 ·simp [Qr]
 ·rw [Zv]
  intro m
  obtain ⟨c, hc, q⟩ := List.mem_map.mp m
  rw [Sum.inl.inj q] at hc
  exact h hc
theorem QdN {bs : List Box} {fl : List Addr} {b : Box} {a : Addr} (hl : bs.length = fl.length) (h : b.name ∉ bs.map (·.name)) : QbZ (Ql bs fl) (Sum.inl b.name : Key) (V.ref a) = Ql (bs ++ [b]) (fl ++ [a]) := by
 rw [QbD _ (Qbw ?_)]
 ·unfold Ql
  rw [List.zip_append hl]
  simp
 ·rw [Qae hl]
  intro m
  obtain ⟨c, hc, q⟩ := List.mem_map.mp m
  rw [Sum.inl.inj q] at hc
  exact h hc
def Fr2 (x y : Addr) (H H' : Hp) : Prop := ∀ b o, H b = some o → b ≠ x → b ≠ y → H' b = some o
theorem Fr2.trans {x y : Addr} {H H1 H2 : Hp} (a : Fr2 x y H H1) (b : Fr2 x y H1 H2) : Fr2 x y H H2 := fun c o h n1 n2 => b c o (a c o h n1 n2) n1 n2
theorem Fr2.of_same {x y : Addr} {H H1 : Hp} (s : Same H H1) : Fr2 x y H H1 := fun c o h _ _ => s c o h
theorem Fr2.tups {x y : Addr} {H H1 : Hp} (a : Fr2 x y H H1) {k1 k2 : List (Key × V)} (hx : H x = some (.dK k1)) (hy : H y = some (.dK k2)) : Tups H H1 := fun b xs q =>
 a b _ q (QE q hx (by intro z; cases z)) (QE q hy (by intro z; cases z))
theorem Qg0 {a b r l : List Addr} (h : (a ++ b ++ r).Nodup) (hl : l.Nodup) (hd : ∀ x ∈ l, x ∉ a ++ b ++ r) : (a ++ (b ++ l) ++ r).Nodup := by
 have e : (a ++ (b ++ l) ++ r).Perm ((a ++ b ++ r) ++ l) := by
  have : (a ++ (b ++ (l ++ r))).Perm (a ++ (b ++ (r ++ l))) := List.Perm.append_left a (List.Perm.append_left b List.perm_append_comm)
  simpa [List.append_assoc] using this
 rw [e.nodup_iff]
 exact List.nodup_append.mpr ⟨h, hl, fun x hx y hy e => hd y hy (e ▸ hx)⟩
theorem HouseAt.grown {C : Addr} {H H' : Hp} {p : Addr} {A : HA} {S : HS} {nb : List Box} {fl2 : List Addr} {z : Int} (h : HouseAt C H p A S) (h1 : H' p = some (.ins C A.dx (Qaq A { S with last := z })))
  (h2 : H' A.kd = some (.dK (Qr (S.boxes ++ nb)))) (h3 : H' A.fd = some (.dK (Ql (S.boxes ++ nb) (A.fl ++ fl2)))) (h4 : Paired (fun b a => ThL H' b.row a) nb fl2)
  (nd2 : fl2.Nodup) (hl : ∀ a ∈ fl2, a ∉ A.lists) (hk : ∀ b ∈ A.lists, H' b = H b) (ht : Tups H H') (hn : nb.map (·.name) = Qy (S.last + 1) nb.length) (hz : z = S.last + (nb.length : Int)) :
  HouseAt C H' p { A with fl := A.fl ++ fl2 } { S with last := z, boxes := S.boxes ++ nb } where
 ob := h1
 sl := h.sl.keep ht (hk _ (by simp [HA.lists]))
 kd := h2
 fd := h3
 fl := Qaj (QQ (fun b a _ ha z => z.keep ht (hk _ (by simp [HA.lists, ha]))) h.fl) h4
 qs := (hk _ (by simp [HA.lists])).trans h.qs
 ql := QQ (fun b a _ ha z => (hk _ (by simp [HA.lists, ha])).trans z) h.ql
 td := (hk _ (by simp [HA.lists])).trans h.td
 tl := QQ (fun b a _ ha z => (hk _ (by simp [HA.lists, ha])).trans z) h.tl
 nd := by
  have e : HA.lists A = [A.sl, A.qs, A.td] ++ A.fl ++ (A.ql ++ A.tl) := by simp [HA.lists]
  have e2 : HA.lists { A with fl := A.fl ++ fl2 } = [A.sl, A.qs, A.td] ++ (A.fl ++ fl2) ++ (A.ql ++ A.tl) := by simp [HA.lists]
  have nd := h.nd
  rw [e] at nd hl
  rw [e2]
  exact Qg0 nd nd2 hl
 kf := h.kf
 asc := by
  show ((S.boxes ++ nb).map (·.name)).Pairwise (· < ·)
  rw [List.map_append, List.pairwise_append, hn]
  refine ⟨h.asc, Qao _ _, fun x hx y hy => ?_⟩
  obtain ⟨b, hb, rfl⟩ := List.mem_map.mp hx
  have := h.top b hb
  have hy := Zq.mp hy
  omega
 top := fun b hb => by
  show b.name ≤ z
  rcases List.mem_append.mp hb with q | q
  ·have := h.top b q; omega
  ·have : b.name ∈ Qy (S.last + 1) nb.length := by rw [← hn]; exact List.mem_map.mpr ⟨b, q, rfl⟩
   have := Zq.mp this
   omega
def Qgr (C : Addr) : Sp := fun vs H Q _ => ∃ (p : Addr) (A : HA) (S : HS) (rows : List Row) (slot : Nat) (ad : Addr) (as : List Addr), vs = [.ref p, .ref ad, .int slot] ∧ HouseAt C H p A S ∧ H ad = some (.lst (as.map V.ref)) ∧ Paired (RowT H) rows as ∧
 rows ≠ [] ∧ (∀ r ∈ rows, r.2.length ≤ 900 ∧ ∀ n : Int, .box n ∈ r.2 → 0 ≤ n ∧ n < rows.length) ∧ S.boxes.length + rows.length ≤ 900 ∧ (S.boxes.length : Int) + rows.length ≤ S.room ∧ slot < S.slots.length ∧ Out C H p A (S.gave rows slot) Q (.int (S.last + 1))
def Qfg (C : Addr) : Sp := fun vs H Q _ => ∃ (p : Addr) (A : HA) (S : HS) (n : Int) (slot : Nat), vs = [.ref p, .int n, .int slot] ∧ HouseAt C H p A S ∧ n ∈ names S ∧ Closed S.boxes ∧ S.boxes.length ≤ 450 ∧ (S.boxes.length : Int) + (Qq S.boxes n).length ≤ S.room ∧ slot < S.slots.length ∧
 Out C H p A (S.gave (QF S.boxes n) slot) Q (.int (S.last + 1))
def Qc6 (C : Addr) : Sp := fun vs H Q _ => ∃ p A S, vs = [.ref p] ∧ HouseAt C H p A S ∧ ∀ l, H l = none → Q (.ref l) (upd H l (.lst ((names S).map V.int)))
def Qhz (C : Addr) : Sp := fun vs H Q _ => ∃ (p : Addr) (A : HA) (S : HS), vs = [.ref p] ∧ HouseAt C H p A S ∧ S.boxes.length ≤ 900 ∧ (∀ b ∈ S.boxes, b.row.length ≤ 900) ∧
 ∀ m ak ar H', Same H H' → H' m = some (.tup [.ref ak, .ref ar]) → RecNew H H' ak ar S.boxes → Q (.ref m) H'
def spAsA (C : Addr) : Sp := fun vs H Q _ => ∃ (p ak ar as : Addr) (A : HA) (S : HS) (fl : List Addr), vs = [.ref p, .ref ak, .ref ar, .ref as] ∧ HouseAt C H p A S ∧ H ak = some (.dK (Qr S.boxes)) ∧ H ar = some (.dK (Ql S.boxes fl)) ∧
 Paired (fun b a => ThL H b.row a) S.boxes fl ∧ ThL H S.slots as ∧ S.boxes.length ≤ 900 ∧ ∀ H', Same H H' → Q (.bl true) H'
end LW
namespace LW
open PySem L2
theorem Qeo {α β : Type} {F : α → β → Prop} : ∀ {xs : List α} {ys : List β} {y : β}, Paired F xs ys → y ∈ ys → ∃ x, x ∈ xs ∧ F x y
 | _, _, _, .cons (a := x) h t, m => by
  rcases List.mem_cons.mp m with z | z
  ·exact ⟨x, List.mem_cons_self, z ▸ h⟩
  ·obtain ⟨x', hx, hf⟩ := Qeo t z
   exact ⟨x', List.mem_cons_of_mem _ hx, hf⟩
theorem QiM {l : List Addr} {a : Addr} (h : l.Nodup) (n : a ∉ l) : (l ++ [a]).Nodup := List.nodup_append.mpr ⟨h, by simp, fun x hx y hy e => n (by rw [← List.mem_singleton.mp hy, ← e]; exact hx)⟩
theorem QaS {bs : List Box} {n : Int} : (QF bs n).length = (Qq bs n).length := by simp [QF]
theorem Qhj (succ : Int → List Int) (n : Int) (k : Nat) : (wk succ n k)[0]? = some n := by
 obtain ⟨ys, e⟩ := Qew succ n 0 k
 rw [Nat.zero_add] at e
 rw [e]; rfl
theorem QiY {bs : List Box} {n : Int} : QF bs n ≠ [] := fun e => by
 have h : (QF bs n).length = 0 := by rw [e]; rfl
 rw [QaS] at h
 have := Qhj (Zh bs) n bs.length
 rw [show wk (Zh bs) n bs.length = Qq bs n from rfl, List.getElem?_eq_none (by omega)] at this
 cases this
theorem idx_lt {w : List Int} {n : Int} (h : n ∈ w) : 0 ≤ idx w n ∧ idx w n < w.length := by
 have := List.idxOf_lt_length_of_mem h
 unfold idx; omega
theorem QhR {f : Int → Int} {ts : List T} {m : Int} (h : .box m ∈ ts.map (ren f)) : ∃ n, .box n ∈ ts ∧ m = f n := by
 obtain ⟨t, ht, e⟩ := List.mem_map.mp h
 cases t with
 | non => cases e
 | num i => cases e
 | box n => exact ⟨n, ht, by cases e; rfl⟩
theorem QgL {bs : List Box} {n : Int} (nd : (bs.map (·.name)).Nodup) (hc : Closed bs) (hn : n ∈ bs.map (·.name)) : ∀ r ∈ QF bs n, r.2.length ≤ 900 ∧ ∀ m : Int, .box m ∈ r.2 → 0 ≤ m ∧ m < (QF bs n).length := by
 intro r hr
 obtain ⟨x, hx, rfl⟩ := List.mem_map.mp hr
 obtain ⟨b, hb, rfl⟩ := List.mem_map.mp (Qex nd hc hn x hx)
 obtain ⟨i, hi⟩ := List.getElem?_of_mem hb
 rw [QaO nd hi, QaS]
 refine ⟨by show (b.row.map _).length ≤ 900; rw [List.length_map]; exact (hc b hb).1, fun m hm => ?_⟩
 obtain ⟨y, hy, rfl⟩ := QhR hm
 exact idx_lt (QaX nd hc hn hi hx hy)
end LW
namespace LW
open PySem L2
theorem Qj0 {α : Type} {xs : List α} {v : α} (h : 0 < xs.length) (e : xs[xs.length - 1]? = some v) : atI xs (-1) = some v := by
 have z : ixN xs.length (-1) = some (xs.length - 1) := by
  unfold ixN
  rw [if_neg (by omega), if_pos (by omega)]
  congr 1
  omega
 unfold atI
 rw [z]
 exact e
end LW
namespace LW
open PySem L2
theorem QjI {S : HS} {i : Nat} {x : V} (h : ((names S).map V.int)[i]? = some x) : ∃ b, S.boxes[i]? = some b ∧ x = .int b.name := by
 rw [List.getElem?_map, names, List.getElem?_map] at h
 cases e : S.boxes[i]? with
 | none => rw [e] at h; cases h
 | some b => rw [e] at h; exact ⟨b, rfl, (Option.some.inj h).symm⟩
end LW
namespace LW
open PySem L2
section
variable {P : Program} {w : World} {K : PySem.W.Frag} {mg : Str → Option Value} {base : Heap} {C : Addr}
theorem Qch {n : Nat} {f : Addr} {fd : FuncData} (F : Fun K "names" "House.names" Zk f fd) (T : TX K mg C)  :
  FnOk P w K mg base CX0 (n + 1) f fd ["self"] (Qc6 C) := by
 refine F.ok QcR (fun vs H Q E h => ?_) (fun cdv A outer s H vs Q E hr h => ?_)
 ·obtain ⟨p, A', S, rfl, _⟩ := h
  rfl
 ·obtain ⟨p, A', S, rfl, hh, k⟩ := h
  have hu := Q0 hr
  refine ⟨_, (Qh (Qu (Qv (Qa4 hr.hd) (by rfl) T.g_sorted PyProof.Rows.boot_sorted (Qa (ZM (pv 0) rfl) Qf)))), ?_⟩
  exact ⟨_, rfl, p, C, A'.dx, _, _, rfl, hh.ob, T.cl, T.n_kinds, QbF, A'.kd, _, names S, rfl, hh.kd, Zv _, hh.asc, fun l hl => k l hl⟩
theorem QbO : QW (Qc Qw) ["self", "draft", "slot", "new_names", "name", "row"] (Q5 ((Qbu (QeA (Qj Qw) 1)))) "place" ["self"] [0] :=
 ⟨by rfl, by decide +kernel, by decide +kernel, by decide +kernel, by rfl, by decide +kernel, by rfl, by decide +kernel⟩
theorem QbN : QW (Qc Qw) ["self", "draft", "slot", "new_names", "name", "row"] (Q5 ((Qbu (QeA (Qe3 (QeA (Qj Qw) 2)) 1)))) "thing" ["new_names"] [3] :=
 ⟨by rfl, by decide +kernel, by decide +kernel, by decide +kernel, by rfl, by decide +kernel, by rfl, by decide +kernel⟩
theorem Qci {n : Nat} {f : Addr} {fd : FuncData} (F : Fun K "build" "House.build" Qw f fd) (T : TX K mg C) (gz : mg "zip" = none) (M1_ : MethOk P w K mg base C n "has_room" ["self", "count"] (Qb5 C) [[]])
  (D2_ : DefOk P w K mg base n "renamed" ["thing", "new_names"] (Qdd) [[]])
  (D3_ : DefOk P w K mg base n "box_thing" ["name"] (QaN) [[]]) :
  FnOk P w K mg base CX0 (n + 1) f fd ["self", "draft", "slot"] (Qgr C) := by
 obtain ⟨f1_, fd1_, m1_, G1_, b1_⟩ := M1_
 obtain ⟨f2_, fd2_, n2_, k2_, J2_, c2_⟩ := D2_
 obtain ⟨f3_, fd3_, n3_, k3_, J3_, c3_⟩ := D3_
 refine F.ok Q8 (fun vs H Q E h => ?_) (fun cdv A outer s H vs Q E hr h => ?_)
 ·obtain ⟨p, A', S, rows, slot, ad, as, rfl, _⟩ := h
  rfl
 ·obtain ⟨p, A', S, rows, slot, ad, as, rfl, hh, had, hrows, hne, hrok, hfew, hroom, hs, k⟩ := h
  have hu := Q0 hr
  refine ⟨_, (Qe (Ze (Qai (Z1 (Qz (pv 0) T.cl m1_ G1_ hr (b1_ [] (by simp)) .nil Qp (Qa (Qv Qs (by rfl) T.g_len PySem.boot_len (Qa (pv 1) Qf)) Qf)))) Qdq QA)
   (Qe (QD (i := 3) Q8.nd rfl (Or.inr rfl) (Qas QbO rfl (Zx (by rfl) T.g_range (Qa (Qv Qs (by rfl) T.g_len PySem.boot_len (Qa (pv 1) Qf)) Qf)) (fun _ _ _ _ => ZW) (fun _ _ _ _ => (QC Zo (QC Zo (QhU (K' := K) rfl (pv 1) rfl) Qi) (pv 0)))))
   (Qe (ZX PassesOwn.never rfl (Qjb (by rfl) gz (Qa (pv 3) (Qa (pv 1) Qf))) (Qb0 rfl Q8.nd (i := 4) (j := 5) rfl rfl (Or.inl rfl) (Or.inl rfl))
   (Qe (QaG hu (ZM (pv 0) rfl) (pv 4) (QX Zp (pv 5) Qi (fun _ _ => rfl)) rfl)
   (Qh (QaG hu (ZM (pv 0) rfl) (pv 4) (Qas QbN rfl (pi_tup (QX Zp (pv 5) Qi (fun _ _ => rfl))) (fun _ _ _ _ => ZW) (fun _ _ _ _ => (Qm J2_ hr (by rfl) n2_ k2_ (c2_ [] (by simp)) .nil Qp (Qa (pv 0) (Qa (pv 1) Qf))))) rfl))))
   (Qe (Qce (pv 0) (QX QY (pv 3) (pe_un Qi4 Qi) (fun _ _ => rfl)) rfl)
   (Qe (Qen (Qm J3_ hr (by rfl) n3_ k3_ (c3_ [] (by simp)) .nil Qp (Qa (QX QY (pv 3) Qi (fun _ _ => rfl)) Qf)) (Qeq (ZM (pv 0) rfl) (pv 2) QbA))
   (Qh (Qu (QX QY (pv 3) Qi (fun _ _ => rfl))))))))), ?_⟩
  have ne1 : p ≠ A'.kd := QE hh.ob hh.kd (by intro z; cases z)
  have ne2 : p ≠ A'.fd := QE hh.ob hh.fd (by intro z; cases z)
  have neL : ∀ b ∈ A'.lists, b ≠ p ∧ b ≠ A'.kd ∧ b ≠ A'.fd := fun b hb => by
   obtain ⟨vs, q⟩ := hh.isL b hb
   exact ⟨QE q hh.ob (by intro z; cases z), QE q hh.kd (by intro z; cases z), QE q hh.fd (by intro z; cases z)⟩
  have len : (Qaq A' S).length < 1000 := by show 7 < 1000; decide
  have alen : as.length = rows.length := (QB hrows).symm
  have rpos : 0 < rows.length := List.length_pos_iff.mpr hne
  have hnames := Qcx S.last rows
  have nbl := Qc7 S.last rows
  have nbAt : ∀ {j : Nat} {r : Row}, rows[j]? = some r → (Qei S.last rows)[j]? = some ⟨S.last + 1 + (j : Int), r.1, r.2.map (ren fun i => S.last + 1 + i)⟩ := fun h => QeV h
  generalize enb : Qei S.last rows = nb at hnames nbl nbAt
  have hgr : S.gave rows slot = { S with last := S.last + (nb.length : Int), boxes := S.boxes ++ nb, slots := S.slots.set slot (.box (S.last + 1)) } := by rw [nbl, ← enb]; rfl
  rw [hgr] at k
  refine ⟨_, rfl, p, A'.dx, _, rfl, hh.ob, Qx (by decide +kernel), _, rfl, ad, _, rfl, .inl (SqL.of had), p, A', S, _, rfl, hh, _, rfl, ?_⟩
  rw [decide_eq_true (by show (S.boxes.length : Int) + (((as.map V.ref).length : Nat) : Int) ≤ S.room; rw [List.length_map]; omega)]
  refine Qbc ?_
  refine ⟨_, rfl, ad, _, rfl, .inl (SqL.of had), ((as.map V.ref).length : Int), rfl, by omega, by rw [List.length_map]; omega, ?_⟩
  rw [show (((as.map V.ref).length : Nat) : Int).toNat = rows.length by rw [List.length_map]; omega]
  refine QaB (lo := 0) (n := rows.length) (fun i ys H' => H' = H ∧ ys = (Qy (S.last + 1) i).map V.int) ⟨rfl, rfl⟩ ?_ (QaI (by omega)) ?_ ?_
  ·rintro i ys H' ⟨_, rfl⟩
   rw [List.length_map, Qo]; exact Nat.le_refl _
  ·rintro i ys H' hi ⟨rfl, rfl⟩
   dsimp only [Qb3]
   refine Qcm ⟨_, rfl, p, C, A'.dx, _, _, rfl, hh.ob, T.cl, T.n_last, Qid, _, _, rfl, rfl, _, rfl, _, _, rfl, rfl, rfl, ?_⟩
   rw [Qan, List.map_append]
   show _ = _ ++ [V.int (S.last + 1 + (i : Int))]
   rw [Int.zero_add]
  ·rintro ys H' ⟨rfl, rfl⟩ ln hln
   have d1 : (upd H' ln (.lst ((Qy (S.last + 1) rows.length).map V.int))) ln = some (.lst ((Qy (S.last + 1) rows.length).map V.int)) := Qb
   generalize eH1 : upd H' ln (.lst ((Qy (S.last + 1) rows.length).map V.int)) = H1 at d1
   have s1 : Same H' H1 := by rw [← eH1]; exact Same.new hln
   have hh1 := hh.same s1
   have lnk : ln ≠ A'.kd := QE d1 hh1.kd (by intro z; cases z)
   have lnf : ln ≠ A'.fd := QE d1 hh1.fd (by intro z; cases z)
   have adk : ad ≠ A'.kd := QE had hh.kd (by intro z; cases z)
   have adf : ad ≠ A'.fd := QE had hh.fd (by intro z; cases z)
   have fresh : ∀ i, i ≤ rows.length → (S.last + 1 + (i : Int)) ∉ (S.boxes ++ nb.take i).map (·.name) := fun i hi m => by
    rw [List.map_append, List.map_take, hnames] at m
    rcases List.mem_append.mp m with m | m
    ·obtain ⟨b, hb, e⟩ := List.mem_map.mp m
     have := hh.top b hb
     omega
    ·obtain ⟨j, hj⟩ := List.getElem?_of_mem m
     have hjl := (List.getElem?_eq_some_iff.mp hj).1
     rw [List.length_take, Qo] at hjl
     rw [List.getElem?_take_of_lt (by omega), Zr (by omega)] at hj
     have := Option.some.inj hj
     omega
   refine ⟨_, rfl, _, rfl, ln, ad, _, _, rfl, d1, s1 _ _ had, ?_⟩
   refine Qif (xs := (Qy (S.last + 1) rows.length).map V.int) (ys := as.map V.ref) (fun i σ H2 => ∃ v_name v_row, σ = [some (.ref p), some (.ref ad), some (.int slot), some (.ref ln), v_name, v_row] ∧ Fr2 A'.kd A'.fd H1 H2 ∧ ∃ fl2 : List Addr,
     H2 A'.kd = some (.dK (Qr (S.boxes ++ nb.take i))) ∧ H2 A'.fd = some (.dK (Ql (S.boxes ++ nb.take i) (A'.fl ++ fl2))) ∧ Paired (fun b a => ThL H2 b.row a) (nb.take i) fl2 ∧ fl2.Nodup ∧ ∀ a ∈ fl2, H' a = none) (by rw [List.length_map, List.length_map, Qo]; omega)
    ⟨_, _, rfl, Fr2.of_same (Same.refl _), [], by rw [List.take_zero, List.append_nil]; exact hh1.kd, by rw [List.take_zero, List.append_nil, List.append_nil]; exact hh1.fd, .nil, List.nodup_nil, by simp⟩ (fun i σ H2 _ ⟨_, _, _, a1, _⟩ => ⟨a1 _ _ d1 lnk lnf, a1 _ _ (s1 _ _ had) adk adf⟩) ?_ ?_
   ·rintro i x y σ H2 pp hx hy ⟨v1, v2, rfl, f2, fl2, hk2, hf2, hp2, nd2, fr2⟩ hpp
    have hi : i < rows.length := by have := (List.getElem?_eq_some_iff.mp hx).1; rw [List.length_map, Qo] at this; exact this
    rw [List.getElem?_map, Zr hi] at hx
    have hx : V.int (S.last + 1 + (i : Int)) = x := Option.some.inj hx
    subst hx
    obtain ⟨r, hr1⟩ : ∃ r, rows[i]? = some r := ⟨_, List.getElem?_eq_getElem hi⟩
    obtain ⟨at_, hat_, t_, ts_, hat, htt, hts⟩ := ZK hrows hr1
    rw [List.getElem?_map, hat_] at hy
    have hy : V.ref at_ = y := Option.some.inj hy
    subst hy
    have hrr := hrok r (List.mem_of_getElem? hr1)
    have hb := nbAt hr1
    have tk := ZL hb
    have flen : (S.boxes ++ nb.take i).length = (A'.fl ++ fl2).length := by rw [List.length_append, List.length_append, QB hp2, QB hh.fl]
    have blen : (S.boxes ++ nb.take i).length ≤ 900 := by rw [List.length_append, List.length_take]; omega
    refine ⟨pp, _, _, rfl, Qb, ?_⟩
    have s3 : Same H2 (upd H2 pp (.tup [V.int (S.last + 1 + (i : Int)), V.ref at_])) := Same.new hpp
    generalize upd H2 pp (.tup [V.int (S.last + 1 + (i : Int)), V.ref at_]) = H3 at s3 ⊢
    have f3 : Fr2 A'.kd A'.fd H' H3 := (Fr2.of_same s1).trans (f2.trans (Fr2.of_same s3))
    have hp3 := f3 _ _ hh.ob ne1 ne2
    have hat3 := f3 _ _ hat (QE hat hh.kd (by intro z; cases z)) (QE hat hh.fd (by intro z; cases z))
    refine ⟨_, rfl, at_, _, 0, _, rfl, rfl, SqT.of hat3, rfl, _, rfl, p, C, A'.dx, _, _, rfl, hp3, T.cl, T.n_kinds, QbF, _, rfl, A'.kd, _, rfl, DPut.k (k := Sum.inl (S.last + 1 + (i : Int))) (s3 _ _ hk2) (by rw [Qr, List.length_map]; exact QP (by omega)), ?_⟩
    rw [show QbZ (Qr (S.boxes ++ nb.take i)) (Sum.inl (S.last + 1 + (i : Int)) : Key) (V.str r.1) = Qr (S.boxes ++ nb.take (i + 1)) by rw [tk, ← List.append_assoc]; exact Qer (b := ⟨S.last + 1 + (i : Int), r.1, r.2.map (ren fun i => S.last + 1 + i)⟩) (fresh i (by omega))]
    have k4 : Fr2 A'.kd A'.fd H3 (upd H3 A'.kd (.dK (Qr (S.boxes ++ nb.take (i + 1))))) := fun b o q nb _ => by rw [Qg nb]; exact q
    have e4 : (upd H3 A'.kd (.dK (Qr (S.boxes ++ nb.take (i + 1))))) A'.kd = some (.dK (Qr (S.boxes ++ nb.take (i + 1)))) := Qb
    have g4 : (upd H3 A'.kd (.dK (Qr (S.boxes ++ nb.take (i + 1))))) A'.fd = some (.dK (Ql (S.boxes ++ nb.take i) (A'.fl ++ fl2))) := by rw [Qg hh.kf.symm]; exact s3 _ _ hf2
    generalize upd H3 A'.kd (.dK (Qr (S.boxes ++ nb.take (i + 1)))) = H4 at k4 e4 g4 ⊢
    have f4 := f3.trans k4
    have hat4 := f4 _ _ hat (QE hat hh.kd (by intro z; cases z)) (QE hat hh.fd (by intro z; cases z))
    have htt4 := f4 _ _ htt (QE htt hh.kd (by intro z; cases z)) (QE htt hh.fd (by intro z; cases z))
    have hln4 : H4 ln = some (.lst ((Qy (S.last + 1) rows.length).map V.int)) := k4 _ _ (s3 _ _ (f2 _ _ d1 lnk lnf)) lnk lnf
    have ht4 : Ths H4 r.2 ts_ := Ths.keep (f4.tups hh.kd hh.fd) hts
    refine ⟨_, rfl, at_, _, 1, _, rfl, rfl, SqT.of hat4, rfl, t_, rfl, ⟨_, SqT.of htt4⟩, ?_⟩
    refine Qi0 (xs := ts_) (fun j ys H5 => Same H4 H5 ∧ Ths H5 ((r.2.take j).map (ren fun i => S.last + 1 + i)) ys) ⟨Same.refl _, .nil⟩ ?_ (QaI (by rw [← QB hts]; omega)) ?_ ?_ ?_
    ·rintro j ys H5 ⟨_, h⟩
     rw [← QB h, List.length_map, List.length_take]; omega
    ·rintro j ys H5 _ ⟨s, _⟩
     exact SqT.of (s _ _ htt4)
    ·rintro j x ys H5 hx ⟨s5, h5⟩
     obtain ⟨t, ht, tv⟩ := QM ht4 hx
     have tv5 := tv.keep (Tups.of_same s5)
     dsimp only [Qb3]
     rw [ZL ht, List.map_append]
     refine Qcm ⟨_, rfl, _, rfl, x, t, ln, _, rfl, tv5, s5 _ _ hln4, ?_⟩
     cases t with
     | non => exact ⟨s5, Qaj h5 (.cons tv5 .nil)⟩
     | num z => exact ⟨s5, Qaj h5 (.cons tv5 .nil)⟩
     | box n =>
      have hn := hrr.2 n (List.mem_of_getElem? ht)
      obtain ⟨m, rfl⟩ : ∃ m : Nat, n = (m : Int) := ⟨n.toNat, by omega⟩
      refine ⟨m, _, rfl, Zr (by omega), fun c hc => ⟨s5.trans (Same.new hc), Qaj (Ths.keep (Tups.new hc) h5) (.cons ⟨c, rfl, Qb⟩ .nil)⟩⟩
    ·rintro ys H5 ⟨s5, h5⟩ l hl
     rw [← QB hts, List.take_length] at h5
     have hp4 := f4 _ _ hh.ob ne1 ne2
     have l4 : H4 l = none := s5.free hl
     have nf : ∀ b : Addr, H4 b = none → H' b = none := fun b hb => by
      cases e : H' b with
      | none => rfl
      | some o =>
       by_cases e1 : b = A'.kd
       ·subst e1; rw [e4] at hb; cases hb
       by_cases e2 : b = A'.fd
       ·subst e2; rw [g4] at hb; cases hb
       rw [f4 b o e e1 e2] at hb; cases hb
     have lf : l ≠ A'.fd := (Qd g4 l4).symm
     have s6 : Same H4 (upd H5 l (.lst ys)) := s5.trans (Same.new hl)
     have e6 : (upd H5 l (.lst ys)) l = some (.lst ys) := Qb
     have h6 : Ths (upd H5 l (.lst ys)) (r.2.map (ren fun i => S.last + 1 + i)) ys := Ths.keep (Tups.new hl) h5
     generalize upd H5 l (.lst ys) = H6 at s6 e6 h6 ⊢
     refine ⟨_, rfl, p, C, A'.dx, _, _, rfl, s6 _ _ hp4, T.cl, T.n_fields, QaR, _, rfl, A'.fd, _, rfl, DPut.k (kvs := Ql (S.boxes ++ nb.take i) (A'.fl ++ fl2)) (k := Sum.inl (S.last + 1 + (i : Int))) (s6 _ _ g4) (by rw [Ql, List.length_map, List.length_zip]; exact QP (by omega)), ?_⟩
     rw [show QbZ (Ql (S.boxes ++ nb.take i) (A'.fl ++ fl2)) (Sum.inl (S.last + 1 + (i : Int)) : Key) (V.ref l) = Ql (S.boxes ++ nb.take (i + 1)) (A'.fl ++ (fl2 ++ [l])) by rw [tk, ← List.append_assoc, ← List.append_assoc]; exact QdN (b := ⟨S.last + 1 + (i : Int), r.1, r.2.map (ren fun i => S.last + 1 + i)⟩) flen (fresh i (by omega))]
     have k7 : Fr2 A'.kd A'.fd H6 (upd H6 A'.fd (.dK (Ql (S.boxes ++ nb.take (i + 1)) (A'.fl ++ (fl2 ++ [l]))))) := fun b o q _ nb => by rw [Qg nb]; exact q
     have step : Fr2 A'.kd A'.fd H2 (upd H6 A'.fd (.dK (Ql (S.boxes ++ nb.take (i + 1)) (A'.fl ++ (fl2 ++ [l]))))) := ((Fr2.of_same s3).trans k4).trans ((Fr2.of_same s6).trans k7)
     have lout : l ∉ fl2 := fun m => by
      obtain ⟨b, hb, vs', hv', _⟩ := Qeo hp2 m
      have := ((Fr2.of_same s3).trans k4) _ _ hv' (QE hv' hk2 (by intro z; cases z)) (QE hv' hf2 (by intro z; cases z))
      rw [this] at l4; cases l4
     have e7 : (upd H6 A'.fd (.dK (Ql (S.boxes ++ nb.take (i + 1)) (A'.fl ++ (fl2 ++ [l]))))) A'.fd = some (.dK (Ql (S.boxes ++ nb.take (i + 1)) (A'.fl ++ (fl2 ++ [l])))) := Qb
     have g7 : (upd H6 A'.fd (.dK (Ql (S.boxes ++ nb.take (i + 1)) (A'.fl ++ (fl2 ++ [l]))))) A'.kd = some (.dK (Qr (S.boxes ++ nb.take (i + 1)))) := by rw [Qg hh.kf]; exact s6 _ _ e4
     have l7 : (upd H6 A'.fd (.dK (Ql (S.boxes ++ nb.take (i + 1)) (A'.fl ++ (fl2 ++ [l]))))) l = some (.lst ys) := by rw [Qg lf]; exact e6
     have h7 := Ths.keep (k7.tups (s6 _ _ e4) (s6 _ _ g4)) h6
     generalize upd H6 A'.fd (.dK (Ql (S.boxes ++ nb.take (i + 1)) (A'.fl ++ (fl2 ++ [l])))) = H7 at e7 g7 l7 h7 step ⊢
     refine ⟨_, _, rfl, f2.trans step, fl2 ++ [l], g7, e7, ?_, QiM nd2 lout, fun a ha => ?_⟩
     ·rw [tk]
      refine Qaj (QQ (fun b a _ ha z => ?_) hp2) (.cons ⟨ys, l7, h7⟩ .nil)
      obtain ⟨vs', hv', ht'⟩ := z
      exact ⟨vs', step _ _ hv' (QE hv' hk2 (by intro z; cases z)) (QE hv' hf2 (by intro z; cases z)), Ths.keep (step.tups hk2 hf2) ht'⟩
     ·rcases List.mem_append.mp ha with z | z
      ·exact fr2 a z
      ·rw [List.mem_singleton.mp z]; exact nf l l4
   ·rintro σ H2 ⟨v1, v2, rfl, f2, fl2, hk2, hf2, hp2, nd2, fr2⟩
    rw [List.length_map, Qo] at hk2 hf2 hp2
    rw [List.take_of_length_le (by omega)] at hk2 hf2 hp2
    have f2' : Fr2 A'.kd A'.fd H' H2 := (Fr2.of_same s1).trans f2
    have b1 := f2' _ _ hh.ob ne1 ne2
    have a1 : H2 ln = some (.lst ((Qy (S.last + 1) rows.length).map V.int)) := f2 _ _ d1 lnk lnf
    refine ⟨_, rfl, _, rfl, ln, _, -1, .int (S.last + (nb.length : Int)), rfl, rfl, SqL.of a1, Qj0 (by rw [List.length_map, Qo]; omega) (by rw [List.length_map, Qo, List.getElem?_map, Zr (by omega)]; show some (V.int _) = _; rw [show S.last + 1 + ((rows.length - 1 : Nat) : Int) = S.last + (nb.length : Int) by omega]), _, rfl, p, C, A'.dx, _, rfl, b1, T.cl, T.n_last, len, ?_⟩
    rw [QfD]
    have fl2n : ∀ a ∈ fl2, a ∉ A'.lists ∧ a ≠ p := fun a ha => by
     have z := fr2 a ha
     refine ⟨fun m => ?_, fun e => ?_⟩
     ·obtain ⟨vs, q⟩ := hh.isL a m
      rw [q] at z; cases z
     ·subst e; rw [hh.ob] at z; cases z
    have tu2 : Tups H' H2 := f2'.tups hh.kd hh.fd
    have tu3 : Tups H2 (upd H2 p (.ins C A'.dx (Qaq A' { S with last := S.last + (nb.length : Int) }))) := Tups.upd b1 (by intro xs z; cases z)
    have hh3 : HouseAt C (upd H2 p (.ins C A'.dx (Qaq A' { S with last := S.last + (nb.length : Int) }))) p { A' with fl := A'.fl ++ fl2 } { S with last := S.last + (nb.length : Int), boxes := S.boxes ++ nb } := by
     refine hh.grown Qb (by rw [Qg ne1.symm]; exact hk2) (by rw [Qg ne2.symm]; exact hf2) (QQ (fun b a _ ha z => z.keep tu3 (Qg (fl2n a ha).2)) hp2) nd2 (fun a ha => (fl2n a ha).1) (fun b hb => ?_) (tu2.trans tu3) (by rw [hnames, nbl]) rfl
     obtain ⟨a1, a2, a3⟩ := neL b hb
     obtain ⟨vs, q⟩ := hh.isL b hb
     rw [Qg a1, f2' _ _ q a2 a3, q]
    have a3 : (upd H2 p (.ins C A'.dx (Qaq A' { S with last := S.last + (nb.length : Int) }))) ln = some (.lst ((Qy (S.last + 1) rows.length).map V.int)) := by rw [Qg (QE a1 b1 (by intro z; cases z))]; exact a1
    have b6 : ∀ b o, H' b = some o → b ≠ p → b ≠ A'.kd → b ≠ A'.fd → (upd H2 p (.ins C A'.dx (Qaq A' { S with last := S.last + (nb.length : Int) }))) b = some o := fun b o q n0 n1 n2 => by rw [Qg n0]; exact f2' b o q n1 n2
    generalize upd H2 p (.ins C A'.dx (Qaq A' { S with last := S.last + (nb.length : Int) })) = H3 at hh3 a3 b6 ⊢
    have n0 : ((Qy (S.last + 1) rows.length).map V.int)[0]? = some (V.int (S.last + 1)) := by
     rw [List.getElem?_map, Zr rpos]
     show some (V.int (S.last + 1 + ((0 : Nat) : Int))) = _
     rw [show S.last + 1 + ((0 : Nat) : Int) = S.last + 1 by omega]
    refine ⟨_, rfl, ln, _, 0, _, rfl, rfl, SqL.of a3, ZI (j := 0) n0, S.last + 1, rfl, fun a ha => ?_⟩
    have hh4 := hh3.new (o := .tup [.str "box", .int (S.last + 1)]) ha
    obtain ⟨ws, hw, ht⟩ := hh4.sl
    have hl : ws.length = S.slots.length := (QB ht).symm
    refine ⟨_, rfl, p, C, A'.dx, _, _, rfl, hh4.ob, T.cl, T.n_slots, Qco, _, rfl, A'.sl, ws, slot, slot, rfl, rfl, hw, Qcy (by omega), ?_⟩
    have nls : ln ≠ A'.sl := fun e => by
     obtain ⟨vs, q⟩ := hh.isL A'.sl (by simp [HA.lists])
     rw [← e, hln] at q; cases q
    refine ⟨_, rfl, ln, _, 0, _, rfl, rfl, SqL.of (by rw [Qg nls]; exact Zt a3 ha), ZI (j := 0) n0, ?_⟩
    have hh5 := hh4.setSlot (j := slot) (t := .box (S.last + 1)) (v := .ref a) hw ht ⟨a, rfl, Qb⟩
    refine k { A' with fl := A'.fl ++ fl2 } _ hh5 (fun b o q nb => ?_) (fun b xs q => ?_) (fun b hb => ?_)
    ·have nb : b ≠ p ∧ b ≠ A'.kd ∧ b ≠ A'.fd ∧ b ≠ A'.sl := by simp [HA.foot, HA.lists] at nb; exact ⟨nb.1, nb.2.1, nb.2.2.1, nb.2.2.2.1⟩
     rw [Qg nb.2.2.2]
     exact Zt (b6 b o q nb.1 nb.2.1 nb.2.2.1) ha
    ·have q3 := b6 b _ q (QE q hh.ob (by intro z; cases z)) (QE q hh.kd (by intro z; cases z)) (QE q hh.fd (by intro z; cases z))
     have q4 := Zt (o := .tup [.str "box", .int (S.last + 1)]) q3 ha
     rw [Qg (QE q4 hw (by intro z; cases z))]
     exact q4
    ·have hb : b ∈ fl2 ∨ b ∈ A'.foot p := by
      simp only [HA.foot, HA.lists, List.mem_cons, List.mem_append] at hb ⊢
      rcases hb with h | h | h | h | h | h | (h | h) | h | h <;> simp [h]
     rcases hb with e | e
     ·right; exact fr2 b e
     ·exact .inl e
theorem Qfv {n : Nat} {f : Addr} {fd : FuncData} {ds : List Value} (F : FunD K "doubled" "doubled" Qal f fd ds) (T : TX K mg C) (M1_ : MethOk P w K mg base C n "check_slot" ["self", "slot"] (QaC C) [[]])
  (M2_ : MethOk P w K mg base C n "make_room" ["self", "count", "besides"] (QbU C) [[], [.none]])
  (D3_ : DefOk P w K mg base n "walk" ["house", "name"] (Qht C) [[]])
  (M4_ : MethOk P w K mg base C n "build" ["self", "draft", "slot"] (Qgr C) [[]])
  (D5_ : DefOk P w K mg base n "walk_draft" ["house", "name"] (QhE C) [[]]) :
  FnOk P w K mg base CX0 (n + 1) f fd ["house", "name", "slot"] (Qfg C) := by
 obtain ⟨f1_, fd1_, m1_, G1_, b1_⟩ := M1_
 obtain ⟨f2_, fd2_, m2_, G2_, b2_⟩ := M2_
 obtain ⟨f3_, fd3_, n3_, k3_, J3_, c3_⟩ := D3_
 obtain ⟨f4_, fd4_, m4_, G4_, b4_⟩ := M4_
 obtain ⟨f5_, fd5_, n5_, k5_, J5_, c5_⟩ := D5_
 refine F.ok Qfm (fun vs H Q E h => ?_) (fun cdv A outer s H vs Q E hr h => ?_)
 ·obtain ⟨p, A', S, n, slot, rfl, _⟩ := h
  rfl
 ·obtain ⟨p, A', S, n, slot, rfl, hh, hn, hcl, few, hroom, hs, k⟩ := h
  have hu := Q0 hr
  refine ⟨_, (Qe (QH (Qz (pv 0) T.cl m1_ G1_ hr (b1_ [] (by simp)) .nil Qp (Qa (pv 2) Qf)))
   (Qe (QH (Qz (pv 0) T.cl m2_ G2_ hr (b2_ [] (by simp)) .nil Qp (Qa (Qv Qs (by rfl) T.g_len PySem.boot_len (Qa (Qm J3_ hr (by rfl) n3_ k3_ (c3_ [] (by simp)) .nil Qp (Qa (pv 0) (Qa (pv 1) Qf))) Qf)) (Qa (pv 1) Qf))))
   (Qh (Qu (Qz (pv 0) T.cl m4_ G4_ hr (b4_ [] (by simp)) .nil Qp (Qa (Qm J5_ hr (by rfl) n5_ k5_ (c5_ [] (by simp)) .nil Qp (Qa (pv 0) (Qa (pv 1) Qf))) (Qa (pv 2) Qf))))))), ?_⟩
  refine ⟨_, rfl, p, A'.dx, _, rfl, hh.ob, Qx (by decide +kernel), _, rfl, p, A', S, slot, rfl, hh, by omega, by omega, ?_⟩
  refine ⟨_, rfl, p, A'.dx, _, rfl, hh.ob, Qx (by decide +kernel), _, rfl, _, rfl, p, A', S, n, rfl, hh, hn, hcl, by omega, fun l H1 s1 hl hL => ?_⟩
  have wl := QaW hh.nm hcl hn
  refine ⟨l, _, rfl, .inl (SqL.of hL), _, rfl, p, A', S, _, _, rfl, hh.same s1, by rw [List.length_map]; exact hroom, ?_⟩
  have hh1 := hh.same s1
  refine ⟨_, rfl, p, A'.dx, _, rfl, hh1.ob, Qx (by decide +kernel), _, rfl, _, rfl, p, A', S, n, rfl, hh1, hn, hcl, by omega, fun l2 as2 H2 s2 hl2 hL2 hP2 => ?_⟩
  have s3 := s1.trans s2
  refine ⟨_, rfl, p, A', S, QF S.boxes n, slot, l2, as2, rfl, hh.same s3, hL2, hP2, QiY, QgL hh.nm hcl hn, by rw [QaS]; omega, by rw [QaS]; exact hroom, hs, ?_⟩
  exact fun A2 H3 h3 fr tu gr => k A2 H3 h3 (fun b o e nb => fr b o (s3 b o e) nb) ((Tups.of_same s3).trans tu) fun b hb => (gr b hb).imp id fun z => s3.free z
theorem QdQ : QW (Qc Zs) ["house", "kinds", "rows", "name"] (Q5 ((Qbu (QeA (Qe3 (QeA (Qj Zs) 2)) 1)))) "at" ["name", "house"] [3, 0] :=
 ⟨by rfl, by decide +kernel, by decide +kernel, by decide +kernel, by rfl, by decide +kernel, by rfl, by decide +kernel⟩
theorem QeP {n : Nat} {f : Addr} {fd : FuncData} (F : Fun K "_law_read" "_law_read" Zs f fd) (T : TX K mg C) (M1_ : MethOk P w K mg base C n "names" ["self"] (Qc6 C) [[]])
  (M2_ : MethOk P w K mg base C n "kind" ["self", "name"] (Qgp C) [[]])
  (M3_ : MethOk P w K mg base C n "size" ["self", "name"] (Qgn C) [[]])
  (M4_ : MethOk P w K mg base C n "field" ["self", "name", "at"] (QeC C) [[]]) :
  FnOk P w K mg base CX0 (n + 1) f fd ["house"] (Qhz C) := by
 obtain ⟨f1_, fd1_, m1_, G1_, b1_⟩ := M1_
 obtain ⟨f2_, fd2_, m2_, G2_, b2_⟩ := M2_
 obtain ⟨f3_, fd3_, m3_, G3_, b3_⟩ := M3_
 obtain ⟨f4_, fd4_, m4_, G4_, b4_⟩ := M4_
 refine F.ok Qav (fun vs H Q E h => ?_) (fun cdv A outer s H vs Q E hr h => ?_)
 ·obtain ⟨p, A', S, rfl, _⟩ := h
  rfl
 ·obtain ⟨p, A', S, rfl, hh, h64, hrow, k⟩ := h
  have hu := Q0 hr
  refine ⟨_, (Qe (QD (i := 1) Qav.nd rfl (Or.inl rfl) QbE)
   (Qe (QD (i := 2) Qav.nd rfl (Or.inl rfl) QbE)
   (Qe (ZX PassesOwn.never rfl (Z5 (QeL (pv 0) T.cl m1_ G1_ hr (b1_ [] (by simp)) .nil Qp)) (ZH (i := 3) Qav.nd rfl (Or.inr rfl))
   (Qe (QaG hu (pv 1) (pv 3) (Qz (pv 0) T.cl m2_ G2_ hr (b2_ [] (by simp)) .nil Qp (Qa (pv 3) Qf)) rfl)
   (Qh (QaG hu (pv 2) (pv 3) (Qas QdQ rfl (Zx (by rfl) T.g_range (Qa (Qz (pv 0) T.cl m3_ G3_ hr (b3_ [] (by simp)) .nil Qp (Qa (pv 3) Qf)) Qf)) (fun _ _ _ _ => ZW) (fun _ _ _ _ => (Qz (pv 2) T.cl m4_ G4_ hr (b4_ [] (by simp)) .nil Qp (Qa (pv 1) (Qa (pv 0) Qf))))) rfl))))
   (Qh (Qu (QbS (Qa (pv 1) (Qa (pv 2) Qf)))))))), ?_⟩
  refine fun ak hak => ?_
  refine fun ar har => ?_
  have hra : ar ≠ ak := fun e => by rw [e, Qb] at har; cases har
  have har0 : H ar = none := (Same.new hak).free har
  have s0 : Same H (upd (upd H ak (.dK [])) ar (.dK [])) := (Same.new hak).trans (Same.new har)
  have ek : (upd (upd H ak (.dK [])) ar (.dK [])) ak = some (.dK []) := Zt Qb har
  have er : (upd (upd H ak (.dK [])) ar (.dK [])) ar = some (.dK []) := Qb
  generalize upd (upd H ak (.dK [])) ar (.dK []) = H0 at s0 ek er ⊢
  have hh0 := hh.same s0
  refine ⟨_, rfl, p, A'.dx, _, rfl, hh0.ob, Qx (by decide +kernel), p, A', S, rfl, hh0, fun l hl => ⟨l, rfl, ⟨_, SqL.of Qb⟩, ?_⟩⟩
  have lk : l ≠ ak := (Qd ek hl).symm
  have la : l ≠ ar := (Qd er hl).symm
  refine Qax (K := K) (xs := (names S).map V.int) (fun i σ H' => ∃ v_name, σ = [some (.ref p), some (.ref ak), some (.ref ar), v_name] ∧ Same H H' ∧ H' l = some (.lst ((names S).map V.int)) ∧ RecNew H H' ak ar (S.boxes.take i)) ?_ ?_ ?_ ?_
  ·refine ⟨_, rfl, s0.trans (Same.new hl), Qb, [], Zt ek hl, Zt er hl, .nil, by simp [hra.symm], ?_⟩
   intro b hb
   have hb : b = ak ∨ b = ar := by simpa using hb
   rcases hb with rfl | rfl
   ·exact hak
   ·exact har0
  ·rintro i σ H1 _ ⟨_, rfl, _, h1, _⟩
   exact SqL.of h1
  ·rintro i y σ H1 hy ⟨v1, rfl, s1, hl1, hR⟩
   obtain ⟨b, hb, rfl⟩ := QjI hy
   have hlt := (List.getElem?_eq_some_iff.mp hb).1
   have hh1 := hh.same s1
   have hR0 := hR
   obtain ⟨fl, e1, e2, pf, nd, fr⟩ := hR
   have hlen : (S.boxes.take i).length = i := by rw [List.length_take]; omega
   have hfl := QB pf
   have hout : b.name ∉ (S.boxes.take i).map (·.name) := fun z => by
    obtain ⟨j, hj⟩ := List.getElem?_of_mem z
    have hjl := (List.getElem?_eq_some_iff.mp hj).1
    have hji : j < i := by simp at hjl; omega
    rw [List.map_take, List.getElem?_take_of_lt hji] at hj
    have := QcH hh.nm hj (show (S.boxes.map (·.name))[i]? = some b.name by rw [List.getElem?_map, hb]; rfl)
    omega
   refine ⟨_, rfl, p, A'.dx, _, rfl, hh1.ob, Qx (by decide +kernel), _, rfl, p, A', S, i, b, rfl, hh1, hb, _, rfl, _, rfl, ak, _, rfl, DPut.k (k := Sum.inl b.name) e1 (by rw [Qr, List.length_map, hlen]; exact QP (by omega)), ?_⟩
   generalize eH2 : upd H1 ak (.dK (QbZ (Qr (S.boxes.take i)) (Sum.inl b.name) (.str b.kind))) = H2
   have sH2 : Same H H2 := fun c o e => by rw [← eH2, Qg (Qd e hak)]; exact s1 _ _ e
   have hh2 := hh.same sH2
   have hl2 : H2 l = some (.lst ((names S).map V.int)) := by rw [← eH2, Qg lk]; exact hl1
   refine ⟨_, rfl, p, A'.dx, _, rfl, hh2.ob, Qx (by decide +kernel), _, rfl, p, A', S, i, b, rfl, hh2, hb, (b.row.length : Int), rfl, by omega, by have := hrow b (List.mem_of_getElem? hb); omega, ?_⟩
   refine QaB (lo := 0) (n := ((b.row.length : Int)).toNat) (fun j ys H' => H' = H2 ∧ Ths H2 (b.row.take j) ys) ⟨rfl, .nil⟩ ?_ (QaI (by have := hrow b (List.mem_of_getElem? hb); omega)) ?_ ?_
   ·rintro j ys H' ⟨_, ht⟩
    rw [← QB ht, List.length_take]; omega
   ·rintro j ys H' hj ⟨rfl, ht⟩
    dsimp only [Qb3]
    have e0 : (0 : Int) + (j : Int) = (j : Int) := Int.zero_add _
    rw [e0]
    have hjr : j < b.row.length := by omega
    refine Qcm ⟨_, rfl, p, A'.dx, _, rfl, hh2.ob, Qx (by decide +kernel), _, rfl, _, rfl, p, A', S, i, b, j, b.row[j], rfl, hh2, hb, List.getElem?_eq_getElem hjr, fun v tv => ⟨rfl, ?_⟩⟩
    rw [ZL (List.getElem?_eq_getElem hjr)]
    exact Qaj ht (.cons tv .nil)
   ·rintro ys H4 ⟨rfl, ht⟩ r hr4
    have htt : Ths H4 b.row ys := by
     rw [show ((b.row.length : Int)).toNat = b.row.length by omega, List.take_length] at ht
     exact ht
    have r2 : H4 ar = some (.dK (Ql (S.boxes.take i) fl)) := by rw [← eH2, Qg hra]; exact e2
    have s34 : Same H4 (upd H4 r (.lst ys)) := Same.new hr4
    refine ⟨_, rfl, _, rfl, ar, _, rfl, DPut.k (k := Sum.inl b.name) (s34 _ _ r2) (by rw [Ql, List.length_map, List.length_zip]; exact QP (by omega)), ?_⟩
    refine ⟨_, rfl, fun c o e => ?_, ?_, ?_⟩
    ·rw [Qg (Qd e har0)]; exact s34 _ _ (sH2 _ _ e)
    ·rw [Qg la]; exact s34 _ _ hl2
    ·rw [ZL hb]
     refine hR0.snoc (b := b) (a := r) (Same.refl _) hout eH2.symm s34 ⟨ys, Qb, Ths.keep (Tups.new hr4) htt⟩ hr4 sH2 fun fl' h => ?_
     rw [HO.dK.inj (Option.some.inj (h.symm.trans (s34 _ _ r2)))]
  ·rintro σ H1 ⟨v1, rfl, s1, hl1, hR⟩
   rw [List.length_map, show (names S).length = S.boxes.length by simp [names], List.take_length] at hR
   refine ⟨_, rfl, _, rfl, by show 2 ≤ sizeLine; decide, fun m hm => ?_⟩
   exact k m ak ar _ (s1.trans (Same.new hm)) Qb (hR.same (Same.new hm))
theorem QeS {n : Nat} {f : Addr} {fd : FuncData} (F : Fun K "_law_as" "_law_as" Qaz f fd) (T : TX K mg C) (D1_ : DefOk P w K mg base n "_law_names" ["found", "due"] (Qc5 K) [[]])
  (M2_ : MethOk P w K mg base C n "names" ["self"] (Qc6 C) [[]])
  (D3_ : DefOk P w K mg base n "_law_whole" ["found"] (Qdc) [[]])
  (M4_ : MethOk P w K mg base C n "size" ["self", "name"] (Qgn C) [[]])
  (M5_ : MethOk P w K mg base C n "kind" ["self", "name"] (Qgp C) [[]])
  (D6_ : DefOk P w K mg base n "_law_same" ["found", "due"] (Qi7) [[]])
  (M7_ : MethOk P w K mg base C n "field" ["self", "name", "at"] (QeC C) [[]])
  (M8_ : MethOk P w K mg base C n "held" ["self", "slot"] (Qja C) [[]]) :
  FnOk P w K mg base CX0 (n + 1) f fd ["house", "kinds", "rows", "slots"] (spAsA C) := by
 obtain ⟨f1_, fd1_, n1_, k1_, J1_, c1_⟩ := D1_
 obtain ⟨f2_, fd2_, m2_, G2_, b2_⟩ := M2_
 obtain ⟨f3_, fd3_, n3_, k3_, J3_, c3_⟩ := D3_
 obtain ⟨f4_, fd4_, m4_, G4_, b4_⟩ := M4_
 obtain ⟨f5_, fd5_, m5_, G5_, b5_⟩ := M5_
 obtain ⟨f6_, fd6_, n6_, k6_, J6_, c6_⟩ := D6_
 obtain ⟨f7_, fd7_, m7_, G7_, b7_⟩ := M7_
 obtain ⟨f8_, fd8_, m8_, G8_, b8_⟩ := M8_
 refine F.ok QaY (fun vs H Q E h => ?_) (fun cdv A outer s H vs Q E hr h => ?_)
 ·obtain ⟨p, ak, ar, as, A', S, fl, rfl, _⟩ := h
  rfl
 ·obtain ⟨p, ak, ar, as, A', S, fl, rfl, hh, hk, hr', pf, hs, h64, q⟩ := h
  have hu := Q0 hr
  refine ⟨_, (Qe (Ze (Qai (Z1 (Qm J1_ hr (by rfl) n1_ k1_ (c1_ [] (by simp)) .nil Qp (Qa (QeL (pv 0) T.cl m2_ G2_ hr (b2_ [] (by simp)) .nil Qp) (Qa (Qv (Qa4 hr.hd) (by rfl) T.g_sorted PyProof.Rows.boot_sorted (Qa (pv 1) Qf)) Qf))))) (Qh (Qu QaQ)) QA)
   (Qe (ZX PassesOwn.never rfl (Z5 (Qv (Qa4 hr.hd) (by rfl) T.g_sorted PyProof.Rows.boot_sorted (Qa (pv 1) Qf))) (ZH (i := 4) QaY.nd rfl (Or.inl rfl))
   (Qe (Ze (PW.pt (QeK (QS QgY (Qz (pv 0) T.cl m5_ G5_ hr (b5_ [] (by simp)) .nil Qp (Qa (pv 4) Qf)) (Zu hu (pv 1) (pv 4) (fun _ _ => rfl)) (Zg _)) (Qcc (Qai (Z1 (Qm J3_ hr (by rfl) n3_ k3_ (c3_ [] (by simp)) .nil Qp (Qa (Qz (pv 0) T.cl m4_ G4_ hr (b4_ [] (by simp)) .nil Qp (Qa (pv 4) Qf)) Qf))))))) (Qh (Qu QaQ)) QA)
   (Qe (Ze (QS QgY (Qz (pv 0) T.cl m4_ G4_ hr (b4_ [] (by simp)) .nil Qp (Qa (pv 4) Qf)) (Qv Qs (by rfl) T.g_len PySem.boot_len (Qa (Zu hu (pv 2) (pv 4) (fun _ _ => rfl)) Qf)) (Zg _)) (Qh (Qu QaQ)) QA)
   (Qh (ZX PassesOwn.never rfl (Qdt (by rfl) T.g_enumerate (Qa (Zu hu (pv 2) (pv 4) (fun _ _ => rfl)) Qf)) (Qb0 rfl QaY.nd (i := 5) (j := 6) rfl rfl (Or.inl rfl) (Or.inl rfl))
   (Qh (Ze (Qai (Z1 (Qm J6_ hr (by rfl) n6_ k6_ (c6_ [] (by simp)) .nil Qp (Qa (Qz (pv 0) T.cl m7_ G7_ hr (b7_ [] (by simp)) .nil Qp (Qa (pv 4) (Qa (pv 5) Qf))) (Qa (pv 6) Qf))))) (Qh (Qu QaQ)) QA)))))))
   (Qe (ZX PassesOwn.never rfl (Qdt (by rfl) T.g_enumerate (Qa (pv 3) Qf)) (Qb0 rfl QaY.nd (i := 7) (j := 6) rfl rfl (Or.inl rfl) (Or.inl rfl))
   (Qh (Ze (Qai (Z1 (Qm J6_ hr (by rfl) n6_ k6_ (c6_ [] (by simp)) .nil Qp (Qa (Qz (pv 0) T.cl m8_ G8_ hr (b8_ [] (by simp)) .nil Qp (Qa (pv 7) Qf)) (Qa (pv 6) Qf))))) (Qh (Qu QaQ)) QA)))
   (Qh (Qu QaQ))))), ?_⟩
  obtain ⟨ws, hw, htw⟩ := hs
  have hfl := QB pf
  have hnd := hh.nm
  have hnl : (names S).length = S.boxes.length := by simp [names]
  have hns : ((names S).map V.int).length = S.boxes.length := by simp [names]
  refine ⟨_, rfl, p, A'.dx, _, rfl, hh.ob, Qx (by decide +kernel), p, A', S, rfl, hh, fun l hl => ?_⟩
  refine ⟨_, rfl, ak, _, names S, rfl, Zt hk hl, Zv _, hh.asc, fun l2 hl2 => ?_⟩
  refine ⟨l, l2, names S, rfl, Zt Qb hl2, SqL.of Qb, by omega, _, rfl, Qbc ?_⟩
  have s1 : Same H (upd (upd H l (.lst ((names S).map V.int))) l2 (.lst ((names S).map V.int))) := (Same.new hl).trans (Same.new hl2)
  generalize upd (upd H l (.lst ((names S).map V.int))) l2 (.lst ((names S).map V.int)) = H1 at s1 ⊢
  refine ⟨_, rfl, ak, _, names S, rfl, s1 _ _ hk, Zv _, hh.asc, fun l3 hl3 => ?_⟩
  refine ⟨l3, rfl, ⟨_, SqL.of Qb⟩, ?_⟩
  have s2 : Same H (upd H1 l3 (.lst ((names S).map V.int))) := s1.trans (Same.new hl3)
  have h3 : (upd H1 l3 (.lst ((names S).map V.int))) l3 = some (.lst ((names S).map V.int)) := Qb
  generalize upd H1 l3 (.lst ((names S).map V.int)) = H2 at s2 h3 ⊢
  refine Qax (K := K) (xs := (names S).map V.int) (fun i σ H' => ∃ v_name v_at v_thing v_slot, σ = [some (.ref p), some (.ref ak), some (.ref ar), some (.ref as), v_name, v_at, v_thing, v_slot] ∧ Same H2 H') ?_ ?_ ?_ ?_
  ·exact ⟨_, _, _, _, rfl, Same.refl _⟩
  ·rintro i σ H' _ ⟨_, _, _, _, rfl, s⟩
   exact SqL.of (s _ _ h3)
  ·rintro i y σ H' hy ⟨v1, v2, v3, v4, rfl, s⟩
   obtain ⟨b, hb, rfl⟩ : ∃ b, S.boxes[i]? = some b ∧ y = .int b.name := by
    rw [List.getElem?_map, names, List.getElem?_map] at hy
    cases e : S.boxes[i]? with
    | none => rw [e] at hy; cases hy
    | some b => rw [e] at hy; exact ⟨b, rfl, (Option.some.inj hy).symm⟩
   have s' := s2.trans s
   have hh' := hh.same s'
   obtain ⟨a, ha, vs, hv, htv⟩ := ZK pf hb
   refine ⟨_, rfl, p, A'.dx, _, rfl, hh'.ob, Qx (by decide +kernel), _, rfl, p, A', S, i, b, rfl, hh', hb, _, rfl, _, rfl, ak, .str b.kind, rfl, ?_, rfl, _, rfl, Qg5 rfl ?_⟩
   ·rw [← kindAt hnd hb]; exact DGet.k (k := Sum.inl b.name) (s' _ _ hk)
   refine ⟨_, rfl, p, A'.dx, _, rfl, hh'.ob, Qx (by decide +kernel), _, rfl, p, A', S, i, b, rfl, hh', hb, _, rfl, _, rfl, Qbc ?_⟩
   refine ⟨_, rfl, p, A'.dx, _, rfl, hh'.ob, Qx (by decide +kernel), _, rfl, p, A', S, i, b, rfl, hh', hb, _, rfl, _, rfl, ar, .ref a, rfl, ?_, a, vs, rfl, .inl (SqL.of (s' _ _ hv)), rfl, _, rfl, Qg5 (by rw [QB htv]) ?_⟩
   ·rw [← rowAt hfl hnd hb ha]; exact DGet.k (k := Sum.inl b.name) (s' _ _ hr')
   refine ⟨_, rfl, _, rfl, ar, .ref a, rfl, ?_, a, vs, rfl, s' _ _ hv, ?_⟩
   ·rw [← rowAt hfl hnd hb ha]; exact DGet.k (k := Sum.inl b.name) (s' _ _ hr')
   refine Qc9 (xs := vs) (fun j σ H' => ∃ v_at v_thing v_slot, σ = [some (.ref p), some (.ref ak), some (.ref ar), some (.ref as), some (.int b.name), v_at, v_thing, v_slot] ∧ Same H2 H') ?_ ?_ ?_ ?_
   ·exact ⟨_, _, _, rfl, s⟩
   ·rintro j σ H' _ ⟨_, _, _, rfl, s⟩
    exact (s2.trans s) _ _ hv
   ·clear s s' hh' v1 v2 v3 v4
    rintro j y σ H' q1 hy ⟨v1, v2, v3, rfl, s⟩ hq1
    obtain ⟨t, ht, tv⟩ := QM htv hy
    have s3 := (s2.trans s).trans (Same.new (o := .tup [.int (j : Int), y]) hq1)
    have hh3 := hh.same s3
    refine ⟨q1, _, _, rfl, Qb, ?_⟩
    refine ⟨_, rfl, p, A'.dx, _, rfl, hh3.ob, Qx (by decide +kernel), _, rfl, _, rfl, p, A', S, i, b, j, t, rfl, hh3, hb, ht, fun v hv' => ?_⟩
    exact ⟨_, rfl, v, y, t, rfl, hv', tv.keep (Tups.of_same s3), _, rfl, Qbc ⟨_, _, _, rfl, s.trans (Same.new hq1)⟩⟩
   ·rintro σ H' ⟨v1, v2, v3, rfl, s⟩
    exact ⟨_, _, _, _, rfl, s⟩
  ·rintro σ H' ⟨v1, v2, v3, v4, rfl, s⟩
   refine ⟨_, rfl, as, ws, rfl, (s2.trans s) _ _ hw, ?_⟩
   refine Qc9 (xs := ws) (fun j σ H' => ∃ v_name v_at v_thing v_slot, σ = [some (.ref p), some (.ref ak), some (.ref ar), some (.ref as), v_name, v_at, v_thing, v_slot] ∧ Same H2 H') ?_ ?_ ?_ ?_
   ·exact ⟨_, _, _, _, rfl, s⟩
   ·rintro j σ H' _ ⟨_, _, _, _, rfl, s⟩
    exact (s2.trans s) _ _ hw
   ·clear s v1 v2 v3 v4
    rintro j y σ H' q1 hy ⟨v1, v2, v3, v4, rfl, s⟩ hq1
    obtain ⟨t, ht, tv⟩ := QM htw hy
    have s3 := (s2.trans s).trans (Same.new (o := .tup [.int (j : Int), y]) hq1)
    have hh3 := hh.same s3
    refine ⟨q1, _, _, rfl, Qb, ?_⟩
    refine ⟨_, rfl, p, A'.dx, _, rfl, hh3.ob, Qx (by decide +kernel), _, rfl, p, A', S, j, t, rfl, hh3, ht, fun v hv' => ?_⟩
    exact ⟨_, rfl, v, y, t, rfl, hv', tv.keep (Tups.of_same s3), _, rfl, Qbc ⟨_, _, _, _, rfl, s.trans (Same.new hq1)⟩⟩
   ·rintro σ H' ⟨v1, v2, v3, v4, rfl, s⟩
    exact q _ (s2.trans s)
end
end LW
namespace LW
open PySem L2
def rLl (a : Addr) (al : List Addr) (xss : List (List Int)) : Rt where
 on H F := H a = some (.lst (al.map V.ref)) ∧ Paired (Qix H) xss al ∧ F = a :: al
 keep := by
  rintro H H' F ⟨h, p, rfl⟩ k im
  exact ⟨(k a (by simp)).trans h, QQ (fun x b _ hb z => (k b (by simp [hb])).trans z) p, rfl⟩
 there := by
  rintro H F ⟨h, p, rfl⟩ b hb
  rcases List.mem_cons.mp hb with rfl | hb
  ·exact ⟨_, h⟩
  ·obtain ⟨j, hj⟩ := List.getElem?_of_mem hb
   obtain ⟨x, _, z⟩ := QM p hj
   exact ⟨_, z⟩
section
variable {H : Hp} {W : List Rt} {i g : Nat} {a b l : Addr} {al : List Addr} {xss : List (List Int)} {xs : List Int} {vs : List V}
theorem Own.ll (w : Own H W) (h : W[i]? = some (rLl a al xss)) : H a = some (.lst (al.map V.ref)) ∧ Paired (Qix H) xss al := by
 obtain ⟨F, q1, q2, _⟩ := w.get h
 exact ⟨q1, q2⟩
theorem Own.lst (w : Own H W) (h : W[i]? = some (Qiy a vs)) : H a = some (.lst vs) := by
 obtain ⟨F, q, _⟩ := w.get h
 exact q
end
end LW
namespace LW
open PySem L2
theorem Qe7 {f : Int → Int} {D : List Int} (inj : ∀ a ∈ D, ∀ b ∈ D, f a = f b → a = b) : ∀ (xs ns : List Int), (∀ x ∈ ns, x ∈ D) → (∀ x ∈ xs, x ∈ D) → QcO (ns.map f) (xs.map f) = (QcO ns xs).map f
 | [], ns, _, _ => rfl
 | x :: xs, ns, h1, h2 => by
  rw [List.map_cons, QaV, QaV]
  have hx := h2 x List.mem_cons_self
  have h2' : ∀ y ∈ xs, y ∈ D := fun y hy => h2 y (List.mem_cons_of_mem _ hy)
  by_cases z : x ∈ ns
  ·rw [if_pos z, if_pos (List.mem_map.mpr ⟨x, z, rfl⟩)]
   exact Qe7 inj xs ns h1 h2'
  ·have z' : ¬ f x ∈ ns.map f := fun m => by
    obtain ⟨y, hy, e⟩ := List.mem_map.mp m
    rw [inj y (h1 y hy) x hx e] at hy
    exact z hy
   rw [if_neg z, if_neg z']
   have := Qe7 inj xs (ns ++ [x]) (fun y hy => by
    rcases List.mem_append.mp hy with q | q
    ·exact h1 y q
    ·rw [List.mem_singleton.mp q]; exact hx) h2'
   rw [List.map_append] at this
   exact this
theorem Qi2 {succ succ' : Int → List Int} {f : Int → Int} {n : Int} {D : List Int} (inj : ∀ a ∈ D, ∀ b ∈ D, f a = f b → a = b) (h0 : n ∈ D) (hs : ∀ x ∈ D, ∀ y ∈ succ x, y ∈ D) (hc : ∀ x ∈ D, succ' (f x) = (succ x).map f) :
  ∀ k, wk succ' (f n) k = (wk succ n k).map f
 | 0 => rfl
 | k + 1 => by
  have ih := Qi2 inj h0 hs hc k
  cases e : (wk succ n k)[k]? with
  | none => rw [Qcu e, Qcu (by rw [ih, List.getElem?_map, e]; rfl), ih]
  | some x =>
   have hx := Qev h0 hs k x (List.mem_of_getElem? e)
   rw [Qbd e, Qbd (x := f x) (by rw [ih, List.getElem?_map, e]; rfl), ih, hc x hx]
   exact Qe7 inj _ _ (Qev h0 hs k) (hs x hx)
theorem Qa5 (g : Int → Int) : ∀ ts : List T, Qt (ts.map (ren g)) = (Qt ts).map g
 | [] => rfl
 | .non :: ts => Qa5 g ts
 | .num _ :: ts => Qa5 g ts
 | .box n :: ts => congrArg (g n :: ·) (Qa5 g ts)
theorem QhQ (f g : Int → Int) (t : T) : ren f (ren g t) = ren (fun x => f (g x)) t := by cases t <;> rfl
theorem Qcn (lo : Int) (a : Nat) : ∀ b : Nat, Qy lo (a + b) = Qy lo a ++ Qy (lo + a) b
 | 0 => by simp [Qy]
 | b + 1 => by
  rw [← Nat.add_assoc, Qan, Qcn lo a b, Qan, List.append_assoc]
  congr 3
  omega
section
variable {bs : List Box} {n z : Int}
theorem Qfc : (Qq bs n)[0]? = some n := Qhj _ _ _
theorem Qgh : n ∈ Qq bs n := List.mem_of_getElem? Qfc
theorem Qe4 : (Qq bs n).map (fun x => z + 1 + idx (Qq bs n) x) = Qy (z + 1) (Qq bs n).length := by
 apply List.ext_getElem?
 intro j
 by_cases h : j < (Qq bs n).length
 ·rw [List.getElem?_map, List.getElem?_eq_getElem h, Zr h]
  show some (z + 1 + idx (Qq bs n) (Qq bs n)[j]) = _
  rw [QcK Qbe (List.getElem?_eq_getElem h)]
 ·rw [List.getElem?_eq_none (by rw [List.length_map]; omega), List.getElem?_eq_none (by rw [Qo]; omega)]
theorem Qir (nd : (bs.map (·.name)).Nodup) (hc : Closed bs) (hn : n ∈ bs.map (·.name)) {x : Int} (hx : x ∈ Qq bs n) : ∃ (i j : Nat) (b : Box), bs[i]? = some b ∧ b.name = x ∧ (Qq bs n)[j]? = some x ∧ idx (Qq bs n) x = j ∧
  (bs ++ Qei z (QF bs n))[bs.length + j]? = some ⟨z + 1 + idx (Qq bs n) x, b.kind, b.row.map (ren fun y => z + 1 + idx (Qq bs n) y)⟩ := by
 obtain ⟨b, hb, rfl⟩ := List.mem_map.mp (Qex nd hc hn x hx)
 obtain ⟨i, hi⟩ := List.getElem?_of_mem hb
 obtain ⟨j, hj⟩ := List.getElem?_of_mem hx
 have e := QcK Qbe hj
 refine ⟨i, j, b, hi, rfl, hj, e, ?_⟩
 have hr : (QF bs n)[j]? = some (b.kind, b.row.map (ren (idx (Qq bs n)))) := by
  unfold QF
  rw [List.getElem?_map, hj]
  show some (Qbn bs (Qq bs n) b.name) = _
  rw [QaO nd hi]
 rw [List.getElem?_append_right (by omega), show bs.length + j - bs.length = j by omega, QeV hr, e]
 congr 2
 show (b.row.map (ren (idx (Qq bs n)))).map (ren fun i => z + 1 + i) = _
 rw [List.map_map]
 exact List.map_congr_left fun t _ => QhQ _ _ t
variable (nd : (bs.map (·.name)).Nodup) (hc : Closed bs) (hn : n ∈ bs.map (·.name)) (nd' : ((bs ++ Qei z (QF bs n)).map (·.name)).Nodup)
include nd hc hn nd'
theorem QfH : Qq (bs ++ Qei z (QF bs n)) (z + 1) = Qy (z + 1) (Qq bs n).length := by
 have e0 : z + 1 + idx (Qq bs n) n = z + 1 := by rw [QcK Qbe Qfc]; simp
 have cl : ∀ x ∈ Qq bs n, ∀ y ∈ Zh bs x, y ∈ Qq bs n := fun x hx y hy => Qfb (QaW nd hc hn) hx hy
 have inj : ∀ a ∈ Qq bs n, ∀ b ∈ Qq bs n, z + 1 + idx (Qq bs n) a = z + 1 + idx (Qq bs n) b → a = b := fun a ha b hb e => by
  obtain ⟨i, hi⟩ := List.getElem?_of_mem ha
  obtain ⟨j, hj⟩ := List.getElem?_of_mem hb
  rw [QcK Qbe hi, QcK Qbe hj] at e
  have : i = j := by omega
  subst this
  rw [hi] at hj
  exact Option.some.inj hj
 have key := Qi2 (succ := Zh bs) (succ' := Zh (bs ++ Qei z (QF bs n))) (f := fun x => z + 1 + idx (Qq bs n) x) inj Qgh cl (fun x hx => by
  obtain ⟨i, j, b, hi, hbx, hj, e, h⟩ := Qir (z := z) nd hc hn hx
  have := Qbz nd' h
  dsimp only at this
  rw [this, Qa5, ← hbx, Qbz nd hi]) (bs ++ Qei z (QF bs n)).length
 unfold Qq at key ⊢
 rw [show wk (Zh bs) n bs.length = Qq bs n from rfl] at key ⊢
 rw [e0] at key
 rw [key, List.length_append]
 have st : wk (Zh bs) n (bs.length + (Qei z (QF bs n)).length) = Qq bs n := Qeu (QaW nd hc hn) _
 rw [st]
 exact Qe4
theorem Qg8 : QF (bs ++ Qei z (QF bs n)) (z + 1) = QF bs n := by
 have hw := QfH nd hc hn nd'
 have e : QF (bs ++ Qei z (QF bs n)) (z + 1) = (Qq (bs ++ Qei z (QF bs n)) (z + 1)).map (Qbn (bs ++ Qei z (QF bs n)) (Qq (bs ++ Qei z (QF bs n)) (z + 1))) := rfl
 rw [e, hw, ← Qe4, List.map_map]
 conv => rhs; unfold QF
 refine List.map_congr_left fun x hx => ?_
 obtain ⟨i, j, b, hi, hbx, hj, ei, h⟩ := Qir (z := z) nd hc hn hx
 have r := QaO (w := (Qq bs n).map fun x => z + 1 + idx (Qq bs n) x) nd' h
 dsimp only at r
 show Qbn _ _ (z + 1 + idx (Qq bs n) x) = _
 rw [r, ← hbx, QaO nd hi]
 congr 1
 rw [List.map_map]
 refine List.map_congr_left fun t ht => ?_
 show ren _ (ren _ t) = _
 rw [QhQ]
 cases t with
 | non => rfl
 | num i => rfl
 | box m =>
  have hm : m ∈ Qq bs n := QaX nd hc hn hi (hbx ▸ hx) ht
  obtain ⟨k, hk⟩ := List.getElem?_of_mem hm
  have hkl := (List.getElem?_eq_some_iff.mp hk).1
  show T.box (idx _ (z + 1 + idx (Qq bs n) m)) = T.box (idx (Qq bs n) m)
  congr 1
  rw [QcK Qbe hk, Qe4]
  exact QcK ((Qao _ _).imp fun z => Int.ne_of_lt z) (Zr hkl)
theorem Qge : Closed (bs ++ Qei z (QF bs n)) := by
 intro b hb
 rw [List.map_append, Qcx]
 rcases List.mem_append.mp hb with h | h
 ·exact ⟨(hc b h).1, fun m hm => List.mem_append_left _ ((hc b h).2 m hm)⟩
 ·obtain ⟨j, hj⟩ := List.getElem?_of_mem h
  have hjl := (List.getElem?_eq_some_iff.mp hj).1
  rw [Qc7] at hjl
  rw [QeV (List.getElem?_eq_getElem hjl)] at hj
  have hj := Option.some.inj hj
  subst hj
  obtain ⟨h1, h2⟩ := QgL nd hc hn _ (List.getElem_mem hjl)
  refine ⟨by show (List.map _ _).length ≤ 900; rw [List.length_map]; exact h1, fun m hm => List.mem_append_right _ ?_⟩
  obtain ⟨y, hy, rfl⟩ := QhR hm
  have := h2 y hy
  rw [Zq]; omega
end
theorem Fr2.imm {x y : Addr} {H H1 : Hp} (a : Fr2 x y H H1) {k1 k2 : List (Key × V)} (hx : H x = some (.dK k1)) (hy : H y = some (.dK k2)) : Imm H H1 := ⟨a.tups hx hy, fun b o u q => a b _ q (QE q hx (by intro z; cases z)) (QE q hy (by intro z; cases z))⟩
theorem Own.recJoin {H : Hp} {W : List Rt} {nk nr ak ar : Addr} {bs bs' : List Box} (w : Own H (Qd4 nk nr bs' :: Qd4 ak ar bs :: W)) : ∃ fl fl', H ak = some (.dK (Qr bs)) ∧ H ar = some (.dK (Ql bs fl)) ∧ bs.length = fl.length ∧
  H nk = some (.dK (Qr bs')) ∧ H nr = some (.dK (Ql bs' fl')) ∧ bs'.length = fl'.length ∧ ak ≠ ar ∧ nk ≠ ak ∧ nk ≠ ar ∧ nr ≠ ak ∧ nr ≠ ar ∧
  ∀ (k : Nat) (H' : Hp), Fr2 ak ar H H' → H' ak = some (.dK (Qr (bs ++ bs'.drop k))) → H' ar = some (.dK (Ql (bs ++ bs'.drop k) (fl ++ fl'.drop k))) → Own H' (Qd4 ak ar (bs ++ bs'.drop k) :: W) := by
 obtain ⟨Fs, p, nd⟩ := w
 cases p with
 | cons q1 t =>
 cases t with
 | cons q2 t =>
 obtain ⟨fl', n1, n2, pf', rfl⟩ := q1
 obtain ⟨fl, k1, k2, pf, rfl⟩ := q2
 rename_i Fs
 rw [List.flatten_cons, List.flatten_cons] at nd
 obtain ⟨ndA, ndB, dj⟩ := List.nodup_append.mp nd
 obtain ⟨ndC, ndD, dj2⟩ := List.nodup_append.mp ndB
 have hka : ak ≠ ar := fun e => (List.nodup_cons.mp ndC).1 (by simp [e])
 have d1 : nk ≠ ak := dj nk (by simp) ak (by simp)
 have d2 : nk ≠ ar := dj nk (by simp) ar (by simp)
 have d3 : nr ≠ ak := dj nr (by simp) ak (by simp)
 have d4 : nr ≠ ar := dj nr (by simp) ar (by simp)
 refine ⟨fl, fl', k1, k2, QB pf, n1, n2, QB pf', hka, d1, d2, d3, d4, fun k H' fr h1 h2 => ?_⟩
 have im : Imm H H' := fr.imm k1 k2
 have kp : ∀ {ts : List T} {b : Addr}, ThL H ts b → ThL H' ts b := fun ⟨vs, v1, v2⟩ => ⟨vs, fr _ _ v1 (QE v1 k1 (by intro z; cases z)) (QE v1 k2 (by intro z; cases z)), Ths.keep im.t v2⟩
 have pd : Paired (fun b a => ThL H' b.row a) (bs'.drop k) (fl'.drop k) := Qfo (by rw [List.length_drop, List.length_drop, QB pf']) fun i b a hb ha => by
  rw [List.getElem?_drop] at hb ha
  obtain ⟨a', ha', q⟩ := ZK pf' hb
  rw [ha] at ha'
  cases ha'
  exact kp q
 refine ⟨(ak :: ar :: (fl ++ fl'.drop k)) :: Fs, .cons ⟨_, h1, h2, Qaj (QQ (fun b a _ _ z => kp z) pf) pd, rfl⟩ (QQ (fun r F _ hF z => r.keep z (fun b hb => ?_) im) t), ?_⟩
 ·obtain ⟨o, e⟩ := r.there z b hb
  have hbF : b ∈ Fs.flatten := List.mem_flatten.mpr ⟨F, hF, hb⟩
  rw [e]
  exact fr b o e (dj2 ak (by simp) b hbF).symm (dj2 ar (by simp) b hbF).symm
 ·rw [List.flatten_cons]
  have hd : ∀ b ∈ fl'.drop k, b ∈ nk :: nr :: fl' := fun b hb => by simp [List.mem_of_mem_drop hb]
  have e : ((ak :: ar :: (fl ++ fl'.drop k)) ++ Fs.flatten).Perm (fl'.drop k ++ ((ak :: ar :: fl) ++ Fs.flatten)) := by
   show (ak :: ar :: ((fl ++ fl'.drop k) ++ Fs.flatten)).Perm _
   have : ((ak :: ar :: fl) ++ (fl'.drop k ++ Fs.flatten)).Perm (fl'.drop k ++ ((ak :: ar :: fl) ++ Fs.flatten)) := by
    rw [← List.append_assoc, ← List.append_assoc]
    exact List.Perm.append_right _ List.perm_append_comm
   simpa using this
  rw [e.nodup_iff]
  refine List.nodup_append.mpr ⟨?_, ndB, fun x hx y hy => dj x (hd x hx) y hy⟩
  exact ((List.drop_sublist k fl').trans ((List.sublist_cons_self nr fl').trans (List.sublist_cons_self nk _))).nodup ndA
end LW
namespace LW
open PySem L2
theorem Closed.of_ok {bs : List Box} (hn : bs.map (·.name) = Qy 1 bs.length) (h : ∀ b ∈ bs, BOk bs.length b) : Closed bs := fun b hb => ⟨by have := (h b hb).le; omega, fun m hm => by
 have := (h b hb).ts _ hm
 rw [hn, Zq]
 have h1 : 1 ≤ m := this.1
 have h2 : m ≤ bs.length := this.2
 omega⟩
theorem ite_z {c : Bool} {A B : Prop} (hb : B) (h : c = true → B → A) : if c = true then A else B := by
 split
 ·rename_i e; exact h e hb
 ·exact hb
theorem QjH {bs nb : List Box} {i : Nat} {b : Box} (nd : ((bs ++ nb).map (·.name)).Nodup) (h : nb[i]? = some b) : b.name ∉ (bs ++ nb.take i).map (·.name) := fun m => by
 obtain ⟨j, hj⟩ := List.getElem?_of_mem m
 have hjl := (List.getElem?_eq_some_iff.mp hj).1
 rw [List.length_map, List.length_append, List.length_take] at hjl
 have e : bs ++ nb.take i = (bs ++ nb).take (bs.length + i) := by rw [List.take_length_add_append]
 rw [e, List.map_take, List.getElem?_take_of_lt (by omega)] at hj
 have := QcH nd hj (show ((bs ++ nb).map (·.name))[bs.length + i]? = some b.name by rw [List.getElem?_map, List.getElem?_append_right (by omega), show bs.length + i - bs.length = i by omega, h]; rfl)
 omega
section
variable {P : Program} {w : World} {K : PySem.W.Frag} {mg : Str → Option Value} {base : Heap} {C : Addr}
def QiE (K : PySem.W.Frag) : Sp := fun vs H Q _ => ∃ (a : Addr) (ns : List Int), vs = [.ref a] ∧ Scr K H a ns ∧ ns.length ≤ 63 ∧ ∀ H', Q (.bl true) H'
theorem QiK {n : Nat} {f : Addr} {fd : FuncData} {t_db : Tok} (F : Fun K "law" "law" QaZ f fd) (T : TX K mg C) (D1_ : DefOk P w K mg base n "_law_many" ["script"] (QhA K) [[]])
  (D2_ : DefOk P w K mg base n "_law_graph" ["script", "many"] (QhD K) [[]])
  (D3_ : DefOk P w K mg base n "_law_slots" ["script", "count", "many"] (Qhw K) [[]])
  (D4_ : DefOk P w K mg base n "_law_house" ["kinds", "rows", "slots", "extra"] (QhC C) [[]])
  (D5_ : DefOk P w K mg base n "_law_waits" ["script", "many"] (Qhu K) [[]])
  (D6_ : DefOk P w K mg base n "_law_watched" ["house", "waits"] (Qfe C) [[]])
  (D7_ : DefOk P w K mg base n "_law_draw" ["script", "k"] (QbV K) [[]])
  (D8_ : DefOk P w K mg base n "_law_walk" ["rows", "name"] (QfV) [[]])
  (D9_ : DefOk P w K mg base n "doubled" ["house", "name", "slot"] (Qfg C) [[], [.int 0 t_db]])
  (D10_ : DefOk P w K mg base n "_law_whole" ["found"] (Qdc) [[]])
  (D11_ : DefOk P w K mg base n "_law_read" ["house"] (Qhz C) [[]])
  (D12_ : DefOk P w K mg base n "_law_names" ["found", "due"] (Qc5 K) [[]])
  (M13_ : MethOk P w K mg base C n "names" ["self"] (Qc6 C) [[]])
  (D14_ : DefOk P w K mg base n "_law_shape" ["kinds", "rows", "name"] (Qhx) [[]])
  (D15_ : DefOk P w K mg base n "_law_guards" ["house", "waits", "told"] (Qgq C) [[]])
  (D16_ : DefOk P w K mg base n "_law_as" ["house", "kinds", "rows", "slots"] (spAsA C) [[]])
  (M17_ : MethOk P w K mg base C n "put" ["self", "name", "at", "thing"] (Qjt C) [[]]) :
  FnOk P w K mg base CX0 (n + 1) f fd ["script"] (QiE K) := by
 obtain ⟨f1_, fd1_, n1_, k1_, J1_, c1_⟩ := D1_
 obtain ⟨f2_, fd2_, n2_, k2_, J2_, c2_⟩ := D2_
 obtain ⟨f3_, fd3_, n3_, k3_, J3_, c3_⟩ := D3_
 obtain ⟨f4_, fd4_, n4_, k4_, J4_, c4_⟩ := D4_
 obtain ⟨f5_, fd5_, n5_, k5_, J5_, c5_⟩ := D5_
 obtain ⟨f6_, fd6_, n6_, k6_, J6_, c6_⟩ := D6_
 obtain ⟨f7_, fd7_, n7_, k7_, J7_, c7_⟩ := D7_
 obtain ⟨f8_, fd8_, n8_, k8_, J8_, c8_⟩ := D8_
 obtain ⟨f9_, fd9_, n9_, k9_, J9_, c9_⟩ := D9_
 obtain ⟨f10_, fd10_, n10_, k10_, J10_, c10_⟩ := D10_
 obtain ⟨f11_, fd11_, n11_, k11_, J11_, c11_⟩ := D11_
 obtain ⟨f12_, fd12_, n12_, k12_, J12_, c12_⟩ := D12_
 obtain ⟨f13_, fd13_, m13_, G13_, b13_⟩ := M13_
 obtain ⟨f14_, fd14_, n14_, k14_, J14_, c14_⟩ := D14_
 obtain ⟨f15_, fd15_, n15_, k15_, J15_, c15_⟩ := D15_
 obtain ⟨f16_, fd16_, n16_, k16_, J16_, c16_⟩ := D16_
 obtain ⟨f17_, fd17_, m17_, G17_, b17_⟩ := M17_
 refine F.ok ZJ (fun vs H Q E h => ?_) (fun cdv A outer s H vs Q E hr h => ?_)
 ·obtain ⟨a, ns, rfl, _⟩ := h
  rfl
 ·obtain ⟨a, ns, rfl, hS, hlen, q⟩ := h
  have hu := Q0 hr
  refine ⟨_, (Qe (QD (i := 1) ZJ.nd rfl (Or.inl rfl) (Qm J1_ hr (by rfl) n1_ k1_ (c1_ [] (by simp)) .nil Qp (Qa (pv 0) Qf)))
   (Qe (QD (i := 2) ZJ.nd rfl (Or.inl rfl) (Qm J2_ hr (by rfl) n2_ k2_ (c2_ [] (by simp)) .nil Qp (Qa (pv 0) (Qa (pv 1) Qf))))
   (Qe (QD (i := 3) ZJ.nd rfl (Or.inl rfl) (Qm J3_ hr (by rfl) n3_ k3_ (c3_ [] (by simp)) .nil Qp (Qa (pv 0) (Qa Qi (Qa (pv 1) Qf)))))
   (Qe (QD (i := 4) ZJ.nd rfl (Or.inl rfl) (Qm J4_ hr (by rfl) n4_ k4_ (c4_ [] (by simp)) .nil Qp (Qa (QX Zp (pv 2) Qi (fun _ _ => rfl)) (Qa (QX Zp (pv 2) Qi (fun _ _ => rfl)) (Qa (pv 3) (Qa (pv 1) Qf))))))
   (Qe (QD (i := 5) ZJ.nd rfl (Or.inl rfl) (Qm J5_ hr (by rfl) n5_ k5_ (c5_ [] (by simp)) .nil Qp (Qa (pv 0) (Qa (pv 1) Qf))))
   (Qe (QH (Qm J6_ hr (by rfl) n6_ k6_ (c6_ [] (by simp)) .nil Qp (Qa (pv 4) (Qa (pv 5) Qf))))
   (Qe (QD (i := 6) ZJ.nd rfl (Or.inl rfl) (QC Zo Qi (QC Q6 (Qm J7_ hr (by rfl) n7_ k7_ (c7_ [] (by simp)) .nil Qp (Qa (pv 0) (Qa Qi Qf))) (pv 1))))
   (Qe (QD (i := 7) ZJ.nd rfl (Or.inl rfl) (QC Q6 (Qm J7_ hr (by rfl) n7_ k7_ (c7_ [] (by simp)) .nil Qp (Qa (pv 0) (Qa Qi Qf))) Qi))
   (Qe (QD (i := 8) ZJ.nd rfl (Or.inl rfl) (Qm J8_ hr (by rfl) n8_ k8_ (c8_ [] (by simp)) .nil Qp (Qa (QX Zp (pv 2) Qi (fun _ _ => rfl)) (Qa (pv 6) Qf))))
   (Qe (Ze (QS QeM (pv 7) Qi (Zg _)) (Qh (QD (i := 9) ZJ.nd rfl (Or.inl rfl) (Qm J9_ hr (by rfl) n9_ k9_ (c9_ [.int 0 t_db] (by simp)) (vals_1 0 t_db) Qp (Qa (pv 4) (Qa (pv 6) Qf))))) (Qh (QD (i := 9) ZJ.nd rfl (Or.inl rfl) (Qm J9_ hr (by rfl) n9_ k9_ (c9_ [] (by simp)) .nil Qp (Qa (pv 4) (Qa (pv 6) (Qa (pv 7) Qf)))))))
   (Qe (Qen (QbS (Qa Qcf (Qa (QC Zo (pv 1) Qi) Qf))) (Qeq (pv 3) (pv 7) QbA))
   (Qe (Ze (PW.pt (QeK (Qai (Z1 (Qm J10_ hr (by rfl) n10_ k10_ (c10_ [] (by simp)) .nil Qp (Qa (pv 9) Qf)))) (Qcc (QS QgY (pv 9) (QC Zo (pv 1) Qi) (Zg _))))) (Qh (Qu QaQ)) QA)
   (Qe (QD (i := 10) ZJ.nd rfl (Or.inl rfl) (Qm J11_ hr (by rfl) n11_ k11_ (c11_ [] (by simp)) .nil Qp (Qa (pv 4) Qf)))
   (Qe (Ze (Qai (Z1 (Qm J12_ hr (by rfl) n12_ k12_ (c12_ [] (by simp)) .nil Qp (Qa (QeL (pv 4) T.cl m13_ G13_ hr (b13_ [] (by simp)) .nil Qp) (Qa (QaP (QcN hr.hd) (by rfl) T.g_list PyProof.Rows.boot_list (Qa (Qfq (by rfl) T.g_range (Qa Qi (Qa (QC Zo (QC Zo (pv 1) (Qv Qs (by rfl) T.g_len PySem.boot_len (Qa (pv 8) Qf))) Qi) Qf))) Qf)) Qf))))) (Qh (Qu QaQ)) QA)
   (Qe (Ze (Qai (Z1 (Qm J12_ hr (by rfl) n12_ k12_ (c12_ [] (by simp)) .nil Qp (Qa (Qm J8_ hr (by rfl) n8_ k8_ (c8_ [] (by simp)) .nil Qp (Qa (QX Zp (pv 10) Qi (fun _ _ => rfl)) (Qa (pv 9) Qf))) (Qa (QaP (QcN hr.hd) (by rfl) T.g_list PyProof.Rows.boot_list (Qa (Qfq (by rfl) T.g_range (Qa (pv 9) (Qa (QC Zo (pv 9) (Qv Qs (by rfl) T.g_len PySem.boot_len (Qa (pv 8) Qf))) Qf))) Qf)) Qf))))) (Qh (Qu QaQ)) QA)
   (Qe (Ze (QS (op_neG hr.units) (Qm J14_ hr (by rfl) n14_ k14_ (c14_ [] (by simp)) .nil Qp (Qa (QX Zp (pv 10) Qi (fun _ _ => rfl)) (Qa (QX Zp (pv 10) Qi (fun _ _ => rfl)) (Qa (pv 9) Qf)))) (Qm J14_ hr (by rfl) n14_ k14_ (c14_ [] (by simp)) .nil Qp (Qa (QX Zp (pv 2) Qi (fun _ _ => rfl)) (Qa (QX Zp (pv 2) Qi (fun _ _ => rfl)) (Qa (pv 6) Qf)))) (Zg _)) (Qh (Qu QaQ)) QA)
   (Qe (ZX PassesOwn.never rfl (Qfp (by rfl) T.g_range (Qa (pv 9) (Qa (QC Zo (pv 9) (Qv Qs (by rfl) T.g_len PySem.boot_len (Qa (pv 8) Qf))) Qf))) (ZH (i := 11) ZJ.nd rfl (Or.inl rfl))
   (Qe (QaG hu (QX Zp (pv 2) Qi (fun _ _ => rfl)) (pv 11) (Zu hu (QX Zp (pv 10) Qi (fun _ _ => rfl)) (pv 11) (fun _ _ => rfl)) rfl)
   (Qh (QaG hu (QX Zp (pv 2) Qi (fun _ _ => rfl)) (pv 11) (Zu hu (QX Zp (pv 10) Qi (fun _ _ => rfl)) (pv 11) (fun _ _ => rfl)) rfl))))
   (Qe (Ze (PW.pt (QeK (Qai (Z1 (Qm J16_ hr (by rfl) n16_ k16_ (c16_ [] (by simp)) .nil Qp (Qa (pv 4) (Qa (QX Zp (pv 2) Qi (fun _ _ => rfl)) (Qa (QX Zp (pv 2) Qi (fun _ _ => rfl)) (Qa (pv 3) Qf))))))) (Qcc (Qai (Z1 (Qm J15_ hr (by rfl) n15_ k15_ (c15_ [] (by simp)) .nil Qp (Qa (pv 4) (Qa (pv 5) (Qa (ZY (Qa (ZY Qf) (Qa (ZY Qf) (Qa (ZY Qf) (Qa (ZY Qf) Qf))))) Qf))))))))) (Qh (Qu QaQ)) QA)
   (Qe (QD (i := 11) ZJ.nd rfl (Or.inl rfl) (QC Zo (pv 9) (QC Q6 (Qm J7_ hr (by rfl) n7_ k7_ (c7_ [] (by simp)) .nil Qp (Qa (pv 0) (Qa Qi Qf))) (Qv Qs (by rfl) T.g_len PySem.boot_len (Qa (pv 8) Qf)))))
   (Qe (Ze (QS op_gt (Qv Qs (by rfl) T.g_len PySem.boot_len (Qa (Zu hu (QX Zp (pv 2) Qi (fun _ _ => rfl)) (pv 11) (fun _ _ => rfl)) Qf)) Qi (Zg _)) (Qe (QH (Qz (pv 4) T.cl m17_ G17_ hr (b17_ [] (by simp)) .nil Qp (Qa (pv 11) (Qa Qi (Qa Qi Qf)))))
   (Qh (Qen Qi (Qeq (Zu hu (QX Zp (pv 2) Qi (fun _ _ => rfl)) (pv 11) (fun _ _ => rfl)) Qi QbA)))) QA)
   (Qh (Qu (Qm J16_ hr (by rfl) n16_ k16_ (c16_ [] (by simp)) .nil Qp (Qa (pv 4) (Qa (QX Zp (pv 2) Qi (fun _ _ => rfl)) (Qa (QX Zp (pv 2) Qi (fun _ _ => rfl)) (Qa (pv 3) Qf))))))))))))))))))))))))))), ?_⟩
  have o0 : Own H [QfU K a ns] := (Own.nil H).imm ⟨hS, rfl⟩
  refine ⟨_, rfl, a, ns, rfl, hS, fun many hm1 hm40 => ?_⟩
  refine ⟨_, rfl, _, rfl, a, ns, many, rfl, hS, hm1, by omega, fun m ak ar bs H1 s1 hm hR hnm hok => ?_⟩
  obtain ⟨F1, on1, nd1, fr1⟩ := hR.on
  have o1 : Own H1 [QfZ m [.ref ak, .ref ar], Qd4 ak ar bs, QfU K a ns] := (o0.add s1 on1 nd1 fr1).imm ⟨hm, rfl⟩
  have hbl : (bs.length : Int) = many := by
   have := congrArg List.length hnm
   rw [Qo, List.length_map] at this
   omega
  have hnm' : bs.map (·.name) = Qy 1 bs.length := by rw [hnm]; congr 1; omega
  have hnd : (bs.map (·.name)).Nodup := by rw [hnm']; exact (Qao _ _).imp fun z => Int.ne_of_lt z
  rw [← hbl] at hok
  refine ⟨_, rfl, _, rfl, a, ns, 4, many, rfl, o1.scr (i := 2) rfl, by decide, by decide, hm1, fun as ts H2 s2 fas hth htl hts => ?_⟩
  have o2 : Own H2 [QfT as ts, QfZ m [.ref ak, .ref ar], Qd4 ak ar bs, QfU K a ns] := o1.add s2 ⟨hth, rfl⟩ (by simp) (by simpa using fas)
  obtain ⟨fl, hk, hr', pf⟩ := o2.rec (i := 2) rfl
  have hm2 := o2.tup (i := 1) rfl
  rw [← hbl] at hts
  refine ⟨_, rfl, m, _, 0, .ref ak, rfl, rfl, SqT.of hm2, rfl, _, rfl, m, _, 1, .ref ar, rfl, rfl, SqT.of hm2, rfl, _, rfl, _, rfl, ak, ar, as, fl, bs, ts, many, rfl, hk, hr', pf, hth, hnm', by omega, hok, by omega, by omega, hts, by omega, fun p A3 H3 s3 hh3 f3 => ?_⟩
  have o3 : Own H3 [Qah C p ⟨bs.length + many, ts, bs.length, bs, e4, e4⟩, QfT as ts, QfZ m [.ref ak, .ref ar], Qd4 ak ar bs, QfU K a ns] := o2.houseNew hh3 (Frame.of_same s3) f3
  refine ⟨_, rfl, _, rfl, a, ns, many, rfl, o3.scr (i := 4) rfl, hm1, fun wa xss H4 s4 hL hx4 hxo => ?_⟩
  obtain ⟨F4, on4, nd4, fr4⟩ := hL.on
  have o4 : Own H4 [Qgx wa xss, Qah C p ⟨bs.length + many, ts, bs.length, bs, e4, e4⟩, QfT as ts, QfZ m [.ref ak, .ref ar], Qd4 ak ar bs, QfU K a ns] := o3.add s4 on4 nd4 fr4
  obtain ⟨A4, al4, hh4, hl4, hd4, fin4⟩ := o4.houseLls (i := 1) (j := 0) (C := C) rfl rfl (by decide)
  refine ⟨_, rfl, _, rfl, p, wa, A4, _, al4, xss, rfl, hh4, hl4, hd4, rfl, hx4, fun xs hx => ⟨(hxo xs hx).1, (hxo xs hx).2.1, fun n' hn' => ?_⟩, fun A5 H5 hh5 fr5 tu5 gr5 => ?_⟩
  ·show n' ∈ bs.map (·.name)
   rw [hnm', Zq]
   have := (hxo xs hx).2.2 n' hn'
   omega
  have o5 : Own H5 [Qgx wa xss, Qah C p ⟨bs.length + many, ts, bs.length, bs, xss, e4⟩, QfT as ts, QfZ m [.ref ak, .ref ar], Qd4 ak ar bs, QfU K a ns] := fin4 A5 H5 _ hh5 fr5 tu5 gr5
  clear hh5 fr5 tu5 gr5 fin4 hd4 hl4 hh4 o4 o3 hh3 o2 o1 hk hr' pf hm2
  have hcl : Closed bs := Closed.of_ok hnm' hok
  refine ⟨_, rfl, a, ns, 5, rfl, o5.scr (i := 5) rfl, _, rfl, _, _, rfl, rfl, (by show (0 : Int) < many; omega), _, _, rfl, rfl, ?_⟩
  have hn0 : 1 + drw ns 5 % many ∈ bs.map (·.name) := by
   have h1 := Int.emod_nonneg (drw ns 5) (show many ≠ 0 by omega)
   have h2 := Int.emod_lt_of_pos (drw ns 5) (show (0 : Int) < many by omega)
   rw [hnm', Zq]; omega
  dsimp only
  generalize 1 + drw ns 5 % many = n0 at hn0 ⊢
  refine ⟨_, rfl, a, ns, 6, rfl, o5.scr (i := 5) rfl, _, _, rfl, rfl, (by show (0 : Int) < 4; decide), ?_⟩
  obtain ⟨slot, hslot, eslot⟩ : ∃ slot : Nat, slot < 4 ∧ drw ns 6 % 4 = (slot : Int) := by
   have h1 := Int.emod_nonneg (drw ns 6) (show (4 : Int) ≠ 0 by decide)
   have h2 := Int.emod_lt_of_pos (drw ns 6) (show (0 : Int) < 4 by decide)
   exact ⟨(drw ns 6 % 4).toNat, by omega, by omega⟩
  dsimp only
  rw [eslot]
  have hm5 := o5.tup (i := 3) rfl
  obtain ⟨fl5, hk5, hr5, pf5⟩ := o5.rec (i := 4) rfl
  refine ⟨_, rfl, m, _, 1, .ref ar, rfl, rfl, SqT.of hm5, rfl, _, rfl, ar, bs, fl5, n0, rfl, ⟨hr5, pf5⟩, hnd, hn0, hcl, by omega, fun lw H6 s6 nlw hlw => ?_⟩
  have o6 : Own H6 [Qiy lw ((Qq bs n0).map V.int), Qgx wa xss, Qah C p ⟨bs.length + many, ts, bs.length, bs, xss, e4⟩, QfT as ts, QfZ m [.ref ak, .ref ar], Qd4 ak ar bs, QfU K a ns] := o5.add (F := [lw]) s6 ⟨hlw, rfl⟩ (by simp) (by simpa using nlw)
  clear o5 hk5 hr5 pf5 hm5
  have wl := QaW hnd hcl hn0
  have wpos : 0 < (Qq bs n0).length := List.length_pos_of_mem Qgh
  obtain ⟨S1, eS1⟩ : ∃ S1, S1 = HS.gave ⟨bs.length + many, ts, bs.length, bs, xss, e4⟩ (QF bs n0) slot := ⟨_, rfl⟩
  have eb1 : S1.boxes = bs ++ Qei bs.length (QF bs n0) := by rw [eS1]; rfl
  have es1 : S1.slots = ts.set slot (.box ((bs.length : Int) + 1)) := by rw [eS1]; rfl
  have eq1 : S1.queues = xss := by rw [eS1]; rfl
  have et1 : S1.told = e4 := by rw [eS1]; rfl
  refine ⟨_, rfl, rfl, _, rfl, ite_z ?_ (fun e hB => by
   have e : ((slot : Nat) : Int) = 0 := V.int.inj (of_decide_eq_true e)
   have e : slot = 0 := by omega
   subst e
   obtain ⟨_, e1, _, e2, _, e3, h⟩ := hB
   cases e1
   cases e2
   cases e3
   exact ⟨_, rfl, _, rfl, h⟩)⟩
  obtain ⟨A6, hh6, fin6⟩ := o6.houseOut (i := 2) (C := C) rfl
  refine ⟨_, rfl, _, rfl, _, rfl, p, A6, _, n0, slot, rfl, hh6, hn0, hcl, by show bs.length ≤ 450; omega, by show (bs.length : Int) + ((Qq bs n0).length : Int) ≤ bs.length + many; omega, by show slot < ts.length; omega, fun A7 H7 hh7 fr7 tu7 gr7 => ?_⟩
  rw [← eS1] at hh7
  have o7 : Own H7 [Qiy lw ((Qq bs n0).map V.int), Qgx wa xss, Qah C p S1, QfT as ts, QfZ m [.ref ak, .ref ar], Qd4 ak ar bs, QfU K a ns] := fin6 A7 H7 _ hh7 fr7 tu7 gr7
  have hasc1 := hh7.asc
  clear hh7 fr7 tu7 gr7 fin6 hh6 o6 eS1
  dsimp only
  have hnd1 : (S1.boxes.map (·.name)).Nodup := hasc1.imp fun z => Int.ne_of_lt z
  have hl1 : S1.boxes.length = bs.length + (Qq bs n0).length := by rw [eb1, List.length_append, Qc7, QaS]
  have hn1 : names S1 = Qy 1 (bs.length + (Qq bs n0).length) := by
   show S1.boxes.map (·.name) = _
   rw [eb1, List.map_append, hnm', Qcx, QaS, Qcn]
   congr 2
   omega
  have hcl1 : Closed S1.boxes := by rw [eb1] at hnd1 ⊢; exact Qge hnd hcl hn0 hnd1
  have hw1 : Qq S1.boxes ((bs.length : Int) + 1) = Qy ((bs.length : Int) + 1) (Qq bs n0).length := by rw [eb1] at hnd1 ⊢; exact QfH hnd hcl hn0 hnd1
  have hd1 : QF S1.boxes ((bs.length : Int) + 1) = QF bs n0 := by rw [eb1] at hnd1 ⊢; exact Qg8 hnd hcl hn0 hnd1
  have hdr : S1.boxes = bs ++ S1.boxes.drop bs.length := by rw [eb1, List.drop_left]
  have hin1 : ((bs.length : Int) + 1) ∈ S1.boxes.map (·.name) := by
   show _ ∈ names S1
   rw [hn1, Zq]; omega
  generalize Qq bs n0 = ww at *
  refine ⟨_, rfl, _, _, rfl, rfl, by show 2 ≤ sizeLine; decide, fun tp htp => ?_⟩
  have o8 : Own (upd H7 tp (.tup [.str "box", .int (many + 1)])) [Qiy lw (ww.map V.int), Qgx wa xss, Qah C p S1, QfT as ts, QfZ m [.ref ak, .ref ar], Qd4 ak ar bs, QfU K a ns] := o7.same (Same.new htp)
  have t8 : (upd H7 tp (.tup [.str "box", .int (many + 1)])) tp = some (.tup [.str "box", .int (many + 1)]) := Qb
  generalize upd H7 tp (.tup [.str "box", .int (many + 1)]) = H8 at o8 t8 ⊢
  obtain ⟨ws8, hw8, ht8, fin8⟩ := o8.thsSet (i := 3) rfl
  refine ⟨_, rfl, _, rfl, as, ws8, slot, slot, rfl, rfl, hw8, Qcy (by rw [← QB ht8]; omega), ?_⟩
  have o9 : Own (upd H8 as (.lst (ws8.set slot (.ref tp)))) [Qiy lw (ww.map V.int), Qgx wa xss, Qah C p S1, QfT as S1.slots, QfZ m [.ref ak, .ref ar], Qd4 ak ar bs, QfU K a ns] := by
   rw [es1]
   exact fin8 (.box ((bs.length : Int) + 1)) (.ref tp) slot ⟨tp, rfl, by rw [t8, hbl]⟩
  generalize upd H8 as (.lst (ws8.set slot (.ref tp))) = H9 at o9 ⊢
  clear o7 o8 fin8 hw8 ht8 t8
  refine ⟨_, rfl, (bs.length : Int) + 1, rfl, _, rfl, Qbc ⟨_, rfl, _, rfl, _, _, rfl, rfl, rfl, _, rfl, Qg5 (by rw [hbl]) ?_⟩⟩
  have o9' : Own H9 [Qd4 ak ar bs, Qiy lw (ww.map V.int), Qgx wa xss, Qah C p S1, QfT as S1.slots, QfZ m [.ref ak, .ref ar], QfU K a ns] := o9.perm (List.perm_middle (l₁ := [Qiy lw (ww.map V.int), Qgx wa xss, Qah C p S1, QfT as S1.slots, QfZ m [.ref ak, .ref ar]]) (l₂ := [QfU K a ns]))
  obtain ⟨A9, hh9⟩ := o9.house (i := 2) (C := C) rfl
  refine ⟨_, rfl, p, A9, S1, rfl, hh9, by omega, fun b hb => (hcl1 b hb).1, fun nw nk nr H10 s10 hnw hRN => ?_⟩
  obtain ⟨F10, on10, nd10, fr10⟩ := hRN.on
  have o10 : Own H10 [Qd4 nk nr S1.boxes, Qd4 ak ar bs, Qiy lw (ww.map V.int), Qgx wa xss, Qah C p S1, QfT as S1.slots, QfZ m [.ref ak, .ref ar], QfU K a ns] := o9'.add s10 on10 nd10 fr10
  clear o9 o9' on10 nd10 fr10 hRN hh9 s10
  obtain ⟨A11, hh11⟩ := o10.house (i := 4) (C := C) rfl
  have hlw11 := o10.lst (i := 2) rfl
  refine ⟨_, rfl, p, A11.dx, _, rfl, hh11.ob, Qx (by decide +kernel), p, A11, S1, rfl, hh11, fun l1 hl1' => ?_⟩
  refine ⟨_, rfl, _, rfl, lw, _, rfl, .inl (SqL.of (Zt hlw11 hl1')), _, _, rfl, rfl, _, _, rfl, rfl, _, _, rfl, fun r1 hr1 => ?_⟩
  refine ⟨r1, 1, _, rfl, Qb, by decide, by decide, by rw [List.length_map]; omega, by rw [List.length_map]; omega, by rw [List.length_map]; omega, fun d1 hd1' => ?_⟩
  rw [show (many + ((ww.map V.int).length : Nat) + 1 - 1 : Int).toNat = bs.length + ww.length by rw [List.length_map]; omega, ← hn1]
  refine ⟨l1, d1, names S1, rfl, Zt (Zt Qb hr1) hd1', SqL.of Qb, by rw [hn1, Qo]; omega, _, rfl, Qbc ?_⟩
  have s12 := ((Same.new (o := .lst ((names S1).map V.int)) hl1').trans (Same.new hr1)).trans (Same.new (o := .lst ((names S1).map V.int)) hd1')
  have o12 := o10.same s12
  have hnw12 := s12 _ _ hnw
  generalize upd (upd (upd H10 l1 _) r1 _) d1 _ = H12 at o12 hnw12 ⊢
  clear o10 hh11 hlw11 hnw s12
  obtain ⟨fl12, hk12, hr12, pf12⟩ := o12.rec (i := 0) rfl
  refine ⟨_, rfl, nw, _, 1, .ref nr, rfl, rfl, SqT.of hnw12, rfl, _, rfl, nr, S1.boxes, fl12, _, rfl, ⟨hr12, pf12⟩, hnd1, hin1, hcl1, by omega, fun l2 H13 s13 nl2 hl2 => ?_⟩
  have o13 := o12.same s13
  have hlw13 := o13.lst (i := 2) rfl
  refine ⟨_, rfl, _, rfl, _, rfl, lw, _, rfl, .inl (SqL.of hlw13), _, _, rfl, rfl, _, _, rfl, fun r2 hr2 => ?_⟩
  refine ⟨r2, _, _, rfl, Qb, by omega, by omega, by rw [List.length_map]; omega, by rw [List.length_map]; omega, by rw [List.length_map]; omega, fun d2 hd2' => ?_⟩
  rw [show ((bs.length : Int) + 1 + ((ww.map V.int).length : Nat) - ((bs.length : Int) + 1)).toNat = ww.length by rw [List.length_map]; omega]
  rw [hw1] at hl2
  refine ⟨l2, d2, Qy ((bs.length : Int) + 1) ww.length, rfl, Zt (Zt hl2 hr2) hd2', SqL.of Qb, by rw [Qo]; omega, _, rfl, Qbc ?_⟩
  have s14 := s13.trans ((Same.new hr2).trans (Same.new (o := .lst ((Qy ((bs.length : Int) + 1) ww.length).map V.int)) hd2'))
  have o14 := o12.same s14
  have hnw14 := s14 _ _ hnw12
  generalize upd (upd H13 r2 _) d2 _ = H14 at o14 hnw14 ⊢
  clear o12 o13 hlw13 hk12 hr12 pf12 hnw12 s14 s13
  obtain ⟨fl14, hk14, hr14, pf14⟩ := o14.rec (i := 0) rfl
  refine ⟨_, rfl, nw, _, 0, .ref nk, rfl, rfl, SqT.of hnw14, rfl, _, rfl, nw, _, 1, .ref nr, rfl, rfl, SqT.of hnw14, rfl, _, rfl, nk, nr, S1.boxes, fl14, _, rfl, hk14, ⟨hr14, pf14⟩, hnd1, hin1, hcl1, by omega, fun l3 as3 H15 s15 nl3 hL3 hP3 => ?_⟩
  have o15 := o14.same s15
  have hm15 := o15.tup (i := 6) rfl
  obtain ⟨fl15, hk15, hr15, pf15⟩ := o15.rec (i := 1) rfl
  refine ⟨_, rfl, m, _, 0, .ref ak, rfl, rfl, SqT.of hm15, rfl, _, rfl, m, _, 1, .ref ar, rfl, rfl, SqT.of hm15, rfl, _, rfl, ak, ar, bs, fl15, n0, rfl, hk15, ⟨hr15, pf15⟩, hnd, hn0, hcl, by omega, fun l4 as4 H16 s16 nl4 hL4 hP4 => ?_⟩
  obtain ⟨e, he, eq⟩ := QjT (P := RowL) (fun h h' => QiW h h') (QQ (fun r c _ _ z => z.same s16) hP3) hP4
  refine ⟨l3, l4, _, _, e, rfl, rfl, s16 _ _ hL3, hL4, he, _, rfl, iteB (by rw [eq, hd1, decide_eq_true rfl]; rfl) ?_⟩
  have s17 := s15.trans s16
  have o16 := o14.same s17
  have hnw16 := s17 _ _ hnw14
  clear he eq hL3 hP3 hL4 hP4 o14 o15 hm15 hk15 hr15 pf15 hk14 hr14 pf14 hnw14 s15 s16 s17
  obtain ⟨fl, fl', hk0, hr0, hfl, hnk, hnr, hfl', hka, d1_, d2_, d3_, d4_, fin⟩ := o16.recJoin
  have hlw16 := o16.lst (i := 2) rfl
  have hm16 := o16.tup (i := 6) rfl
  have nw1 : nw ≠ ak := QE hnw16 hk0 (by intro z; cases z)
  have nw2 : nw ≠ ar := QE hnw16 hr0 (by intro z; cases z)
  have m1 : m ≠ ak := QE hm16 hk0 (by intro z; cases z)
  have m2 : m ≠ ar := QE hm16 hr0 (by intro z; cases z)
  have fin := fin bs.length
  have hnbl : (S1.boxes.drop bs.length).length = ww.length := by rw [List.length_drop]; omega
  have hnfl : (fl'.drop bs.length).length = ww.length := by rw [List.length_drop]; omega
  have hfl1 := hfl'
  have nbAt : ∀ {i : Nat}, i < ww.length → ∃ b f, S1.boxes[bs.length + i]? = some b ∧ fl'[bs.length + i]? = some f ∧ (S1.boxes.drop bs.length)[i]? = some b ∧ (fl'.drop bs.length)[i]? = some f ∧ b.name = (bs.length : Int) + 1 + (i : Int) := fun {i} hi => by
   have h1 : S1.boxes[bs.length + i]? = some _ := List.getElem?_eq_getElem (show bs.length + i < S1.boxes.length by omega)
   have h2 : fl'[bs.length + i]? = some _ := List.getElem?_eq_getElem (show bs.length + i < fl'.length by omega)
   refine ⟨_, _, h1, h2, by rw [List.getElem?_drop]; exact h1, by rw [List.getElem?_drop]; exact h2, ?_⟩
   have := (Qf6 (n := bs.length + ww.length) hn1 h1).1
   rw [this]; omega
  have ndD : ((bs ++ S1.boxes.drop bs.length).map (·.name)).Nodup := by rw [← hdr]; exact hnd1
  rw [← hdr] at fin
  generalize hnbE : S1.boxes.drop bs.length = nb at hnbl nbAt ndD hdr
  generalize hnfE : fl'.drop bs.length = nf at hnfl nbAt fin
  refine ⟨_, rfl, _, rfl, _, rfl, lw, _, rfl, .inl (SqL.of hlw16), _, _, rfl, rfl, _, _, rfl, ⟨by omega, by omega, by rw [List.length_map]; omega, by rw [List.length_map]; omega⟩, ?_⟩
  rw [show ((bs.length : Int) + 1 + ((ww.map V.int).length : Nat) - ((bs.length : Int) + 1)).toNat = ww.length by rw [List.length_map]; omega]
  refine QaJ (n := ww.length) (fun i σ H' => ∃ v_other, σ = [some (.ref a), some (.int many), some (.ref m), some (.ref as), some (.ref p), some (.ref wa), some (.int n0), some (.int slot), some (.ref lw), some (.int ((bs.length : Int) + 1)), some (.ref nw), v_other] ∧ Fr2 ak ar H16 H' ∧
   H' ak = some (.dK (Qr (bs ++ nb.take i))) ∧ H' ar = some (.dK (Ql (bs ++ nb.take i) (fl ++ nf.take i)))) ?_ ?_ ?_
  ·exact ⟨_, rfl, Fr2.of_same (Same.refl _), by rw [List.take_zero, List.append_nil]; exact hk0, by rw [List.take_zero, List.take_zero, List.append_nil, List.append_nil]; exact hr0⟩
  ·rintro i σ H17 hi ⟨v1, rfl, f17, hk17, hr17⟩
   obtain ⟨b, f, hb, hf, hb', hf', hbn⟩ := nbAt hi
   rw [← hbn]
   have hnw17 := f17 _ _ hnw16 nw1 nw2
   have hm17 := f17 _ _ hm16 m1 m2
   have gk : DGet H17 nk (.int b.name) (some (.str b.kind)) := by rw [← kindAt hnd1 hb]; exact DGet.k (k := Sum.inl b.name) (f17 _ _ hnk d1_ d2_)
   have new := QjH ndD hb'
   have blen : (bs ++ nb.take i).length ≤ 900 := by rw [List.length_append, List.length_take]; omega
   refine ⟨_, rfl, nw, _, 0, .ref nk, rfl, rfl, SqT.of hnw17, rfl, _, rfl, nk, .str b.kind, rfl, gk, ?_⟩
   refine ⟨_, rfl, m, _, 0, .ref ak, rfl, rfl, SqT.of hm17, rfl, _, rfl, ak, _, rfl, DPut.k (k := Sum.inl b.name) hk17 (by rw [Qr, List.length_map]; exact QP (by omega)), ?_⟩
   rw [Qer new, List.append_assoc, ← ZL hb']
   have f18 : Fr2 ak ar H16 (upd H17 ak (.dK (Qr (bs ++ nb.take (i + 1))))) := fun c o e n1 n2 => by rw [Qg n1]; exact f17 c o e n1 n2
   have k18 : (upd H17 ak (.dK (Qr (bs ++ nb.take (i + 1))))) ak = some (.dK (Qr (bs ++ nb.take (i + 1)))) := Qb
   have r18 : (upd H17 ak (.dK (Qr (bs ++ nb.take (i + 1))))) ar = some (.dK (Ql (bs ++ nb.take i) (fl ++ nf.take i))) := by rw [Qg hka.symm]; exact hr17
   generalize upd H17 ak (.dK (Qr (bs ++ nb.take (i + 1)))) = H18 at f18 k18 r18 ⊢
   have gr : DGet H18 nr (.int b.name) (some (.ref f)) := by rw [← rowAt hfl1 hnd1 hb hf]; exact DGet.k (k := Sum.inl b.name) (f18 _ _ hnr d3_ d4_)
   refine ⟨_, rfl, nw, _, 1, .ref nr, rfl, rfl, SqT.of (f18 _ _ hnw16 nw1 nw2), rfl, _, rfl, nr, .ref f, rfl, gr, ?_⟩
   refine ⟨_, rfl, m, _, 1, .ref ar, rfl, rfl, SqT.of (f18 _ _ hm16 m1 m2), rfl, _, rfl, ar, _, rfl, DPut.k (k := Sum.inl b.name) r18 (by rw [Ql, List.length_map, List.length_zip]; exact QP (by omega)), ?_⟩
   rw [QdN (by rw [List.length_append, List.length_append, List.length_take, List.length_take]; omega) new, List.append_assoc, List.append_assoc, ← ZL hb', ← ZL hf']
   exact ⟨_, rfl, fun c o e n1 n2 => by rw [Qg n2]; exact f18 c o e n1 n2, by rw [Qg hka]; exact k18, Qb⟩
  rintro σ H17 ⟨v1, rfl, f17, hk17, hr17⟩
  rw [List.take_of_length_le (by omega), ← hdr] at hk17
  rw [List.take_of_length_le (by omega), List.take_of_length_le (by omega), ← hdr] at hr17
  have o17 := fin H17 f17 hk17 hr17
  clear fin f17 hk17 hr17 o16 hk0 hr0 hnk hnr hnw16 hlw16 hm16
  have hm17 := o17.tup (i := 5) rfl
  obtain ⟨A17, hh17⟩ := o17.house (i := 3) (C := C) rfl
  obtain ⟨fl17, hk17, hr17, pf17⟩ := o17.rec (i := 0) rfl
  refine ⟨_, rfl, _, rfl, m, _, 0, .ref ak, rfl, rfl, SqT.of hm17, rfl, _, rfl, m, _, 1, .ref ar, rfl, rfl, SqT.of hm17, rfl, _, rfl, p, ak, ar, as, A17, S1, fl17, rfl, hh17, hk17, hr17, pf17, o17.ths (i := 4) rfl, by omega, fun H18 s18 => ⟨_, rfl, Qbc ?_⟩⟩
  have o18 := o17.same s18
  refine ⟨_, rfl, _, rfl, rdE4 fun l18 H19 s19 hL19 => ?_⟩
  have o19 := o18.same s19
  obtain ⟨A19, hh19⟩ := o19.house (i := 3) (C := C) rfl
  obtain ⟨al19, hl19⟩ := o19.lls (i := 2) rfl
  obtain ⟨bl19, hb19, _, _⟩ := hL19
  refine ⟨p, wa, l18, A19, S1, al19, bl19, rfl, hh19, by rw [eq1]; exact hl19, by rw [et1]; exact hb19, by rw [eq1]; exact hx4, by rw [et1]; rfl, by rw [eq1]; exact fun xs hx => by have := (hxo xs hx).2.1; omega, by rw [et1]; exact fun xs hx => by rw [show xs = [] by simpa [e4] using hx]; simp, fun H20 s20 => ⟨_, rfl, Qbc ?_⟩⟩
  have o20 := o19.same s20
  clear o19 o18 o17 hh19 hl19 hb19 hh17 hk17 hr17 pf17 hm17 s20 s19 s18
  refine ⟨_, rfl, _, rfl, a, ns, 7, rfl, o20.scr (i := 6) rfl, _, rfl, lw, _, rfl, .inl (SqL.of (o20.lst (i := 1) rfl)), _, _, rfl, rfl, (by rw [List.length_map]; omega), _, _, rfl, rfl, ?_⟩
  obtain ⟨k2, hk2, ek2⟩ : ∃ k2 : Nat, k2 < ww.length ∧ drw ns 7 % (((ww.map V.int).length : Nat) : Int) = (k2 : Int) := by
   rw [List.length_map]
   have h1 := Int.emod_nonneg (drw ns 7) (show (ww.length : Int) ≠ 0 by omega)
   have h2 := Int.emod_lt_of_pos (drw ns 7) (show (0 : Int) < (ww.length : Int) by omega)
   exact ⟨(drw ns 7 % (ww.length : Int)).toNat, by omega, by omega⟩
  dsimp only
  obtain ⟨b, f, hb, _, _, _, hbn⟩ := nbAt hk2
  rw [ek2, ← hbn]
  obtain ⟨fl20, a20, ws, hk20, hr20, hl20, ha20, hw20, ht20, fin20⟩ := o20.recPut (j := 0) rfl hb
  have hm20 := o20.tup (i := 5) rfl
  have g20 : DGet H20 ar (.int b.name) (some (.ref a20)) := by rw [← rowAt hl20 hnd1 hb ha20]; exact DGet.k (k := Sum.inl b.name) hr20
  refine ⟨_, rfl, m, _, 1, .ref ar, rfl, rfl, SqT.of hm20, rfl, _, rfl, ar, .ref a20, rfl, g20, a20, ws, rfl, .inl (SqL.of hw20), _, _, rfl, rfl, _, rfl, Qg6 (fun hpos => ?_) (fun _ => ?_)⟩
  ·have hpos : (0 : Int) < (ws.length : Int) := of_decide_eq_true hpos
   have hrow : 0 < b.row.length := by rw [QB ht20]; omega
   obtain ⟨A20, hh20, fout⟩ := o20.houseOut (i := 3) (C := C) rfl
   refine ⟨_, rfl, p, A20.dx, _, rfl, hh20.ob, Qx (by decide +kernel), _, rfl, p, A20, S1, bs.length + k2, b, 0, .int 7, .num 7, rfl, hh20, hb, hrow, rfl, (fun n' e => by cases e), fun A21 H21 hh21 fr21 tu21 gr21 => ?_⟩
   have o21 : Own H21 [Qd4 ak ar S1.boxes, Qiy lw (ww.map V.int), Qgx wa xss, Qah C p (S1.put (bs.length + k2) 0 (.num 7)), QfT as S1.slots, QfZ m [.ref ak, .ref ar], QfU K a ns] := fout A21 H21 _ hh21 fr21 tu21 gr21
   obtain ⟨fl21, a21, ws21, hk21, hr21, hl21, ha21, hw21, ht21, fin21⟩ := o21.recPut (j := 0) rfl hb
   have g21 : DGet H21 ar (.int b.name) (some (.ref a21)) := by rw [← rowAt hl21 hnd1 hb ha21]; exact DGet.k (k := Sum.inl b.name) hr21
   refine ⟨_, rfl, m, _, 1, .ref ar, rfl, rfl, SqT.of (o21.tup (i := 5) rfl), rfl, _, rfl, ar, .ref a21, rfl, g21, a21, ws21, 0, 0, rfl, rfl, hw21, Qcy (j := 0) (by rw [← QB ht21]; exact hrow), ?_⟩
   have o22 : Own (upd H21 a21 (.lst (ws21.set 0 (.int 7)))) [Qd4 ak ar (S1.put (bs.length + k2) 0 (.num 7)).boxes, Qiy lw (ww.map V.int), Qgx wa xss, Qah C p (S1.put (bs.length + k2) 0 (.num 7)), QfT as (S1.put (bs.length + k2) 0 (.num 7)).slots, QfZ m [.ref ak, .ref ar], QfU K a ns] := fin21 (.num 7) (.int 7) 0 rfl
   generalize upd H21 a21 (.lst (ws21.set 0 (.int 7))) = H22 at o22 ⊢
   have hl22 : (S1.put (bs.length + k2) 0 (.num 7)).boxes.length = S1.boxes.length := by
    have e := congrArg List.length (Qak S1.boxes (bs.length + k2) 0 (.num 7))
    rw [List.length_map, List.length_map] at e
    exact e
   have hm22 := o22.tup (i := 5) rfl
   obtain ⟨A22, hh22⟩ := o22.house (i := 3) (C := C) rfl
   obtain ⟨fl22, hk22, hr22, pf22⟩ := o22.rec (i := 0) rfl
   exact ⟨_, rfl, _, rfl, m, _, 0, .ref ak, rfl, rfl, SqT.of hm22, rfl, _, rfl, m, _, 1, .ref ar, rfl, rfl, SqT.of hm22, rfl, _, rfl, p, ak, ar, as, A22, _, fl22, rfl, hh22, hk22, hr22, pf22, o22.ths (i := 4) rfl, by omega, fun H23 _ => q _⟩
  ·obtain ⟨A22, hh22⟩ := o20.house (i := 3) (C := C) rfl
   obtain ⟨fl22, hk22, hr22, pf22⟩ := o20.rec (i := 0) rfl
   exact ⟨_, rfl, _, rfl, m, _, 0, .ref ak, rfl, rfl, SqT.of hm20, rfl, _, rfl, m, _, 1, .ref ar, rfl, rfl, SqT.of hm20, rfl, _, rfl, p, ak, ar, as, A22, _, fl22, rfl, hh22, hk22, hr22, pf22, o20.ths (i := 4) rfl, by omega, fun H23 _ => q _⟩
end
end LW
/-! The names below are taken, so that the head makes no second form (a twin) of the whole heap at each of its cuts: those forms are not needed, and would be two thirds of the compiled file. -/
def PySem.W.Fast.tw15621739002790720378 : Unit := ()
def PySem.W.Fast.tw13408182606168115432 : Unit := ()
def PySem.W.Fast.tw15785031776640057335 : Unit := ()
def PySem.W.Fast.tw15912076641396973047 : Unit := ()
def PySem.W.Fast.tw14696233860586847174 : Unit := ()
def PySem.W.Fast.tw17841019100337553699 : Unit := ()
def PySem.W.Fast.tw10640767878773928813 : Unit := ()
def PySem.W.Fast.tw6530624957376476385 : Unit := ()
def PySem.W.Fast.tw2372756551859158146 : Unit := ()
def PySem.W.Fast.tw6426936925780047302 : Unit := ()
def PySem.W.Fast.tw9653758707442278233 : Unit := ()
def PySem.W.Fast.tw14903427902075285370 : Unit := ()
def PySem.W.Fast.tw8629109265027806820 : Unit := ()
def PySem.W.Fast.tw16770207773800638080 : Unit := ()
def PySem.W.Fast.tw3552014879938683736 : Unit := ()
def PySem.W.Fast.tw11971001889309662132 : Unit := ()
def PySem.W.Fast.tw14243104191803017831 : Unit := ()
namespace LW
open PySem L2
theorem all_mk {l : PySem.W.OpenLaw} {w : World} {K : PySem.W.Frag} {h : Heap} {mg : Str → Option Value} {fa CHouse x_13 x_36 x_40 x_20 x_33 x_27 x_32 x_23 T_23 x_3 x_6 x_5 T_5 x_38 x_31 x_43 x_9 x_15 T_15 x_4 x_0 x_1 x_25 x_17 x_26 x_34 x_2 x_12 x_11 x_28 x_41 x_21 x_10 x_30 x_42 x_47 x_18 x_46 x_16 x_44 T_44 x_35 x_14 x_37 x_29 x_24 x_7 x_8 x_19 x_39 x_22 x_45 x_48 aF : Addr} (X : K.In h) (G : h.Ns mainGlobals mg) (hfa : mg "law" = some (.ref fa))
    {od_13 an_13 od_36 an_36 od_40 an_40 od_20 an_20 od_33 an_33 od_27 an_27 od_32 an_32 od_23 an_23 od_3 an_3 od_6 an_6 od_5 an_5 od_38 an_38 od_31 an_31 od_43 an_43 od_9 an_9 od_15 an_15 od_4 an_4 od_0 an_0 od_1 an_1 od_25 an_25 od_17 an_17 od_26 an_26 od_34 an_34 od_2 an_2 od_12 an_12 od_11 an_11 od_28 an_28 od_41 an_41 od_21 an_21 od_10 an_10 od_30 an_30 od_42 an_42 od_47 an_47 od_18 an_18 od_46 an_46 od_16 an_16 od_44 an_44 od_35 an_35 od_14 an_14 od_37 an_37 od_29 an_29 od_24 an_24 od_7 an_7 od_8 an_8 od_19 an_19 od_39 an_39 od_22 an_22 od_45 an_45 od_48 an_48 : Option Addr} {sl_13 sl_36 sl_40 sl_20 sl_33 sl_27 sl_32 sl_23 sl_3 sl_6 sl_5 sl_38 sl_31 sl_43 sl_9 sl_15 sl_4 sl_0 sl_1 sl_25 sl_17 sl_26 sl_34 sl_2 sl_12 sl_11 sl_28 sl_41 sl_21 sl_10 sl_30 sl_42 sl_47 sl_18 sl_46 sl_16 sl_44 sl_35 sl_14 sl_37 sl_29 sl_24 sl_7 sl_8 sl_19 sl_39 sl_22 sl_45 sl_48 : Array (Option Value)} {oc_13 kV_13 dc_13 pm_13 cd_13 ct_13 oc_36 kV_36 dc_36 pm_36 cd_36 ct_36 oc_40 kV_40 dc_40 pm_40 cd_40 ct_40 oc_20 kV_20 dc_20 pm_20 cd_20 ct_20 oc_33 kV_33 dc_33 pm_33 cd_33 ct_33 oc_27 kV_27 dc_27 pm_27 cd_27 ct_27 oc_32 kV_32 dc_32 pm_32 cd_32 ct_32 oc_23 kV_23 dc_23 pm_23 cd_23 ct_23 oc_3 kV_3 dc_3 pm_3 cd_3 ct_3 oc_6 kV_6 dc_6 pm_6 cd_6 ct_6 oc_5 kV_5 dc_5 pm_5 cd_5 ct_5 oc_38 kV_38 dc_38 pm_38 cd_38 ct_38 oc_31 kV_31 dc_31 pm_31 cd_31 ct_31 oc_43 kV_43 dc_43 pm_43 cd_43 ct_43 oc_9 kV_9 dc_9 pm_9 cd_9 ct_9 oc_15 kV_15 dc_15 pm_15 cd_15 ct_15 oc_4 kV_4 dc_4 pm_4 cd_4 ct_4 oc_0 kV_0 dc_0 pm_0 cd_0 ct_0 oc_1 kV_1 dc_1 pm_1 cd_1 ct_1 oc_25 kV_25 dc_25 pm_25 cd_25 ct_25 oc_17 kV_17 dc_17 pm_17 cd_17 ct_17 oc_26 kV_26 dc_26 pm_26 cd_26 ct_26 oc_34 kV_34 dc_34 pm_34 cd_34 ct_34 oc_2 kV_2 dc_2 pm_2 cd_2 ct_2 oc_12 kV_12 dc_12 pm_12 cd_12 ct_12 oc_11 kV_11 dc_11 pm_11 cd_11 ct_11 oc_28 kV_28 dc_28 pm_28 cd_28 ct_28 oc_41 kV_41 dc_41 pm_41 cd_41 ct_41 oc_21 kV_21 dc_21 pm_21 cd_21 ct_21 oc_10 kV_10 dc_10 pm_10 cd_10 ct_10 oc_30 kV_30 dc_30 pm_30 cd_30 ct_30 oc_42 kV_42 dc_42 pm_42 cd_42 ct_42 oc_47 kV_47 dc_47 pm_47 cd_47 ct_47 oc_18 kV_18 dc_18 pm_18 cd_18 ct_18 oc_46 kV_46 dc_46 pm_46 cd_46 ct_46 oc_16 kV_16 dc_16 pm_16 cd_16 ct_16 oc_44 kV_44 dc_44 pm_44 cd_44 ct_44 oc_35 kV_35 dc_35 pm_35 cd_35 ct_35 oc_14 kV_14 dc_14 pm_14 cd_14 ct_14 oc_37 kV_37 dc_37 pm_37 cd_37 ct_37 oc_29 kV_29 dc_29 pm_29 cd_29 ct_29 oc_24 kV_24 dc_24 pm_24 cd_24 ct_24 oc_7 kV_7 dc_7 pm_7 cd_7 ct_7 oc_8 kV_8 dc_8 pm_8 cd_8 ct_8 oc_19 kV_19 dc_19 pm_19 cd_19 ct_19 oc_39 kV_39 dc_39 pm_39 cd_39 ct_39 oc_22 kV_22 dc_22 pm_22 cd_22 ct_22 oc_45 kV_45 dc_45 pm_45 cd_45 ct_45 oc_48 kV_48 dc_48 pm_48 cd_48 ct_48 : Value} {t_23_0 t_15_0 t_15_1 t_44_0 tg tw1 tw2 tw3 tw4 : Tok} {ep_23 ep_5 ep_15 ep_44 ep0 : Nat}
    {hs1 hs2 : Int}
    (aCHouse : PySem.W.nsIn K mainGlobals "House" = some (some (.ref CHouse)))
    (a_13 : PySem.W.nsIn K mainGlobals "_law_cell_at" = some (some (.ref x_13)))
    (l_13 : K.lookup x_13 = some ⟨oc_13, od_13, .func (PySem.W.fnOf "_law_cell_at" "_law_cell_at" (Qn Zn) (Qj Zn) (Qc Zn) .none kV_13 dc_13 pm_13 an_13 cd_13 ct_13), sl_13⟩)
    (c_13 : PySem.W.codeIn K cd_13 "_law_cell_at" = true)
    (k_13 : PySem.W.keepIn K (.ref x_13) = true)
    (a_36 : PySem.W.nsIn K mainGlobals "_law_many" = some (some (.ref x_36)))
    (l_36 : K.lookup x_36 = some ⟨oc_36, od_36, .func (PySem.W.fnOf "_law_many" "_law_many" (Qn Qab) (Qj Qab) (Qc Qab) .none kV_36 dc_36 pm_36 an_36 cd_36 ct_36), sl_36⟩)
    (c_36 : PySem.W.codeIn K cd_36 "_law_many" = true)
    (k_36 : PySem.W.keepIn K (.ref x_36) = true)
    (a_40 : PySem.W.nsIn K mainGlobals "_law_draw" = some (some (.ref x_40)))
    (l_40 : K.lookup x_40 = some ⟨oc_40, od_40, .func (PySem.W.fnOf "_law_draw" "_law_draw" (Qn Qac) (Qj Qac) (Qc Qac) .none kV_40 dc_40 pm_40 an_40 cd_40 ct_40), sl_40⟩)
    (c_40 : PySem.W.codeIn K cd_40 "_law_draw" = true)
    (k_40 : PySem.W.keepIn K (.ref x_40) = true)
    (a_20 : PySem.W.nsIn K mainGlobals "_law_number" = some (some (.ref x_20)))
    (l_20 : K.lookup x_20 = some ⟨oc_20, od_20, .func (PySem.W.fnOf "_law_number" "_law_number" (Qn ZF) (Qj ZF) (Qc ZF) .none kV_20 dc_20 pm_20 an_20 cd_20 ct_20), sl_20⟩)
    (c_20 : PySem.W.codeIn K cd_20 "_law_number" = true)
    (k_20 : PySem.W.keepIn K (.ref x_20) = true)
    (a_33 : PySem.W.nsIn K mainGlobals "_law_thing" = some (some (.ref x_33)))
    (l_33 : K.lookup x_33 = some ⟨oc_33, od_33, .func (PySem.W.fnOf "_law_thing" "_law_thing" (Qn ZQ) (Qj ZQ) (Qc ZQ) .none kV_33 dc_33 pm_33 an_33 cd_33 ct_33), sl_33⟩)
    (c_33 : PySem.W.codeIn K cd_33 "_law_thing" = true)
    (k_33 : PySem.W.keepIn K (.ref x_33) = true)
    (a_27 : PySem.W.nsIn K mainGlobals "_law_graph" = some (some (.ref x_27)))
    (l_27 : K.lookup x_27 = some ⟨oc_27, od_27, .func (PySem.W.fnOf "_law_graph" "_law_graph" (Qn Za) (Qj Za) (Qc Za) .none kV_27 dc_27 pm_27 an_27 cd_27 ct_27), sl_27⟩)
    (c_27 : PySem.W.codeIn K cd_27 "_law_graph" = true)
    (k_27 : PySem.W.keepIn K (.ref x_27) = true)
    (a_32 : PySem.W.nsIn K mainGlobals "_law_slots" = some (some (.ref x_32)))
    (l_32 : K.lookup x_32 = some ⟨oc_32, od_32, .func (PySem.W.fnOf "_law_slots" "_law_slots" (Qn ZR) (Qj ZR) (Qc ZR) .none kV_32 dc_32 pm_32 an_32 cd_32 ct_32), sl_32⟩)
    (c_32 : PySem.W.codeIn K cd_32 "_law_slots" = true)
    (k_32 : PySem.W.keepIn K (.ref x_32) = true)
    (a_23 : PySem.W.findIn K (.ref CHouse) "__init__" = some (some (.ref x_23)))
    (i_23 : PySem.W.isFn K (.ref x_23) = true)
    (l_23 : K.lookup x_23 = some ⟨oc_23, od_23, .func (PySem.W.fnOf "__init__" "House.__init__" (Qn QN) (Qj QN) (Qc QN) (.ref T_23) kV_23 dc_23 pm_23 an_23 cd_23 ct_23), sl_23⟩)
    (c_23 : PySem.W.codeIn K cd_23 "House.__init__" = true)
    (k_23 : PySem.W.keepIn K (.ref x_23) = true)
    (t_23 : K.lookup T_23 = some ⟨.type "tuple", none, .seq (List.toArray [.int 4 t_23_0]) ep_23, #[]⟩)
    (a_3 : PySem.W.findIn K (.ref CHouse) "check_slot" = some (some (.ref x_3)))
    (i_3 : PySem.W.isFn K (.ref x_3) = true)
    (l_3 : K.lookup x_3 = some ⟨oc_3, od_3, .func (PySem.W.fnOf "check_slot" "House.check_slot" (Qn QR) (Qj QR) (Qc QR) .none kV_3 dc_3 pm_3 an_3 cd_3 ct_3), sl_3⟩)
    (c_3 : PySem.W.codeIn K cd_3 "House.check_slot" = true)
    (k_3 : PySem.W.keepIn K (.ref x_3) = true)
    (a_6 : PySem.W.findIn K (.ref CHouse) "has_room" = some (some (.ref x_6)))
    (i_6 : PySem.W.isFn K (.ref x_6) = true)
    (l_6 : K.lookup x_6 = some ⟨oc_6, od_6, .func (PySem.W.fnOf "has_room" "House.has_room" (Qn QZ) (Qj QZ) (Qc QZ) .none kV_6 dc_6 pm_6 an_6 cd_6 ct_6), sl_6⟩)
    (c_6 : PySem.W.codeIn K cd_6 "House.has_room" = true)
    (k_6 : PySem.W.keepIn K (.ref x_6) = true)
    (a_5 : PySem.W.findIn K (.ref CHouse) "make_room" = some (some (.ref x_5)))
    (i_5 : PySem.W.isFn K (.ref x_5) = true)
    (l_5 : K.lookup x_5 = some ⟨oc_5, od_5, .func (PySem.W.fnOf "make_room" "House.make_room" (Qn QU) (Qj QU) (Qc QU) (.ref T_5) kV_5 dc_5 pm_5 an_5 cd_5 ct_5), sl_5⟩)
    (c_5 : PySem.W.codeIn K cd_5 "House.make_room" = true)
    (k_5 : PySem.W.keepIn K (.ref x_5) = true)
    (t_5 : K.lookup T_5 = some ⟨.type "tuple", none, .seq (List.toArray [.none]) ep_5, #[]⟩)
    (a_38 : PySem.W.nsIn K mainGlobals "box_name" = some (some (.ref x_38)))
    (l_38 : K.lookup x_38 = some ⟨oc_38, od_38, .func (PySem.W.fnOf "box_name" "box_name" (Qn Qad) (Qj Qad) (Qc Qad) .none kV_38 dc_38 pm_38 an_38 cd_38 ct_38), sl_38⟩)
    (c_38 : PySem.W.codeIn K cd_38 "box_name" = true)
    (k_38 : PySem.W.keepIn K (.ref x_38) = true)
    (a_31 : PySem.W.nsIn K mainGlobals "box_thing" = some (some (.ref x_31)))
    (l_31 : K.lookup x_31 = some ⟨oc_31, od_31, .func (PySem.W.fnOf "box_thing" "box_thing" (Qn ZV) (Qj ZV) (Qc ZV) .none kV_31 dc_31 pm_31 an_31 cd_31 ct_31), sl_31⟩)
    (c_31 : PySem.W.codeIn K cd_31 "box_thing" = true)
    (k_31 : PySem.W.keepIn K (.ref x_31) = true)
    (a_43 : PySem.W.nsIn K mainGlobals "renamed" = some (some (.ref x_43)))
    (l_43 : K.lookup x_43 = some ⟨oc_43, od_43, .func (PySem.W.fnOf "renamed" "renamed" (Qn Z3) (Qj Z3) (Qc Z3) .none kV_43 dc_43 pm_43 an_43 cd_43 ct_43), sl_43⟩)
    (c_43 : PySem.W.codeIn K cd_43 "renamed" = true)
    (k_43 : PySem.W.keepIn K (.ref x_43) = true)
    (a_9 : PySem.W.findIn K (.ref CHouse) "build" = some (some (.ref x_9)))
    (i_9 : PySem.W.isFn K (.ref x_9) = true)
    (l_9 : K.lookup x_9 = some ⟨oc_9, od_9, .func (PySem.W.fnOf "build" "House.build" (Qn Qw) (Qj Qw) (Qc Qw) .none kV_9 dc_9 pm_9 an_9 cd_9 ct_9), sl_9⟩)
    (c_9 : PySem.W.codeIn K cd_9 "House.build" = true)
    (k_9 : PySem.W.keepIn K (.ref x_9) = true)
    (a_15 : PySem.W.findIn K (.ref CHouse) "make" = some (some (.ref x_15)))
    (i_15 : PySem.W.isFn K (.ref x_15) = true)
    (l_15 : K.lookup x_15 = some ⟨oc_15, od_15, .func (PySem.W.fnOf "make" "House.make" (Qn ZB) (Qj ZB) (Qc ZB) (.ref T_15) kV_15 dc_15 pm_15 an_15 cd_15 ct_15), sl_15⟩)
    (c_15 : PySem.W.codeIn K cd_15 "House.make" = true)
    (k_15 : PySem.W.keepIn K (.ref x_15) = true)
    (t_15 : K.lookup T_15 = some ⟨.type "tuple", none, .seq (List.toArray [.int 0 t_15_0, .int 0 t_15_1]) ep_15, #[]⟩)
    (a_4 : PySem.W.findIn K (.ref CHouse) "check_box" = some (some (.ref x_4)))
    (i_4 : PySem.W.isFn K (.ref x_4) = true)
    (l_4 : K.lookup x_4 = some ⟨oc_4, od_4, .func (PySem.W.fnOf "check_box" "House.check_box" (Qn QV) (Qj QV) (Qc QV) .none kV_4 dc_4 pm_4 an_4 cd_4 ct_4), sl_4⟩)
    (c_4 : PySem.W.codeIn K cd_4 "House.check_box" = true)
    (k_4 : PySem.W.keepIn K (.ref x_4) = true)
    (a_0 : PySem.W.findIn K (.ref CHouse) "check_thing" = some (some (.ref x_0)))
    (i_0 : PySem.W.isFn K (.ref x_0) = true)
    (l_0 : K.lookup x_0 = some ⟨oc_0, od_0, .func (PySem.W.fnOf "check_thing" "House.check_thing" (Qn QJ) (Qj QJ) (Qc QJ) .none kV_0 dc_0 pm_0 an_0 cd_0 ct_0), sl_0⟩)
    (c_0 : PySem.W.codeIn K cd_0 "House.check_thing" = true)
    (k_0 : PySem.W.keepIn K (.ref x_0) = true)
    (a_1 : PySem.W.findIn K (.ref CHouse) "check_field" = some (some (.ref x_1)))
    (i_1 : PySem.W.isFn K (.ref x_1) = true)
    (l_1 : K.lookup x_1 = some ⟨oc_1, od_1, .func (PySem.W.fnOf "check_field" "House.check_field" (Qn QL) (Qj QL) (Qc QL) .none kV_1 dc_1 pm_1 an_1 cd_1 ct_1), sl_1⟩)
    (c_1 : PySem.W.codeIn K cd_1 "House.check_field" = true)
    (k_1 : PySem.W.keepIn K (.ref x_1) = true)
    (a_25 : PySem.W.findIn K (.ref CHouse) "put" = some (some (.ref x_25)))
    (i_25 : PySem.W.isFn K (.ref x_25) = true)
    (l_25 : K.lookup x_25 = some ⟨oc_25, od_25, .func (PySem.W.fnOf "put" "House.put" (Qn ZN) (Qj ZN) (Qc ZN) .none kV_25 dc_25 pm_25 an_25 cd_25 ct_25), sl_25⟩)
    (c_25 : PySem.W.codeIn K cd_25 "House.put" = true)
    (k_25 : PySem.W.keepIn K (.ref x_25) = true)
    (a_17 : PySem.W.findIn K (.ref CHouse) "hold" = some (some (.ref x_17)))
    (i_17 : PySem.W.isFn K (.ref x_17) = true)
    (l_17 : K.lookup x_17 = some ⟨oc_17, od_17, .func (PySem.W.fnOf "hold" "House.hold" (Qn ZD) (Qj ZD) (Qc ZD) .none kV_17 dc_17 pm_17 an_17 cd_17 ct_17), sl_17⟩)
    (c_17 : PySem.W.codeIn K cd_17 "House.hold" = true)
    (k_17 : PySem.W.keepIn K (.ref x_17) = true)
    (a_26 : PySem.W.nsIn K mainGlobals "_law_house" = some (some (.ref x_26)))
    (l_26 : K.lookup x_26 = some ⟨oc_26, od_26, .func (PySem.W.fnOf "_law_house" "_law_house" (Qn ZU) (Qj ZU) (Qc ZU) .none kV_26 dc_26 pm_26 an_26 cd_26 ct_26), sl_26⟩)
    (c_26 : PySem.W.codeIn K cd_26 "_law_house" = true)
    (k_26 : PySem.W.keepIn K (.ref x_26) = true)
    (a_34 : PySem.W.nsIn K mainGlobals "_law_waits" = some (some (.ref x_34)))
    (l_34 : K.lookup x_34 = some ⟨oc_34, od_34, .func (PySem.W.fnOf "_law_waits" "_law_waits" (Qn ZP) (Qj ZP) (Qc ZP) .none kV_34 dc_34 pm_34 an_34 cd_34 ct_34), sl_34⟩)
    (c_34 : PySem.W.codeIn K cd_34 "_law_waits" = true)
    (k_34 : PySem.W.keepIn K (.ref x_34) = true)
    (a_2 : PySem.W.findIn K (.ref CHouse) "check_guard" = some (some (.ref x_2)))
    (i_2 : PySem.W.isFn K (.ref x_2) = true)
    (l_2 : K.lookup x_2 = some ⟨oc_2, od_2, .func (PySem.W.fnOf "check_guard" "House.check_guard" (Qn QK) (Qj QK) (Qc QK) .none kV_2 dc_2 pm_2 an_2 cd_2 ct_2), sl_2⟩)
    (c_2 : PySem.W.codeIn K cd_2 "House.check_guard" = true)
    (k_2 : PySem.W.keepIn K (.ref x_2) = true)
    (a_12 : PySem.W.findIn K (.ref CHouse) "watch" = some (some (.ref x_12)))
    (i_12 : PySem.W.isFn K (.ref x_12) = true)
    (l_12 : K.lookup x_12 = some ⟨oc_12, od_12, .func (PySem.W.fnOf "watch" "House.watch" (Qn Zj) (Qj Zj) (Qc Zj) .none kV_12 dc_12 pm_12 an_12 cd_12 ct_12), sl_12⟩)
    (c_12 : PySem.W.codeIn K cd_12 "House.watch" = true)
    (k_12 : PySem.W.keepIn K (.ref x_12) = true)
    (a_11 : PySem.W.nsIn K mainGlobals "_law_watched" = some (some (.ref x_11)))
    (l_11 : K.lookup x_11 = some ⟨oc_11, od_11, .func (PySem.W.fnOf "_law_watched" "_law_watched" (Qn Zm) (Qj Zm) (Qc Zm) .none kV_11 dc_11 pm_11 an_11 cd_11 ct_11), sl_11⟩)
    (c_11 : PySem.W.codeIn K cd_11 "_law_watched" = true)
    (k_11 : PySem.W.keepIn K (.ref x_11) = true)
    (a_28 : PySem.W.nsIn K mainGlobals "_law_boxes" = some (some (.ref x_28)))
    (l_28 : K.lookup x_28 = some ⟨oc_28, od_28, .func (PySem.W.fnOf "_law_boxes" "_law_boxes" (Qn Zb) (Qj Zb) (Qc Zb) .none kV_28 dc_28 pm_28 an_28 cd_28 ct_28), sl_28⟩)
    (c_28 : PySem.W.codeIn K cd_28 "_law_boxes" = true)
    (k_28 : PySem.W.keepIn K (.ref x_28) = true)
    (a_41 : PySem.W.nsIn K mainGlobals "_law_walk" = some (some (.ref x_41)))
    (l_41 : K.lookup x_41 = some ⟨oc_41, od_41, .func (PySem.W.fnOf "_law_walk" "_law_walk" (Qn Z9) (Qj Z9) (Qc Z9) .none kV_41 dc_41 pm_41 an_41 cd_41 ct_41), sl_41⟩)
    (c_41 : PySem.W.codeIn K cd_41 "_law_walk" = true)
    (k_41 : PySem.W.keepIn K (.ref x_41) = true)
    (a_21 : PySem.W.findIn K (.ref CHouse) "size" = some (some (.ref x_21)))
    (i_21 : PySem.W.isFn K (.ref x_21) = true)
    (l_21 : K.lookup x_21 = some ⟨oc_21, od_21, .func (PySem.W.fnOf "size" "House.size" (Qn ZA) (Qj ZA) (Qc ZA) .none kV_21 dc_21 pm_21 an_21 cd_21 ct_21), sl_21⟩)
    (c_21 : PySem.W.codeIn K cd_21 "House.size" = true)
    (k_21 : PySem.W.keepIn K (.ref x_21) = true)
    (a_10 : PySem.W.findIn K (.ref CHouse) "field" = some (some (.ref x_10)))
    (i_10 : PySem.W.isFn K (.ref x_10) = true)
    (l_10 : K.lookup x_10 = some ⟨oc_10, od_10, .func (PySem.W.fnOf "field" "House.field" (Qn Zl) (Qj Zl) (Qc Zl) .none kV_10 dc_10 pm_10 an_10 cd_10 ct_10), sl_10⟩)
    (c_10 : PySem.W.codeIn K cd_10 "House.field" = true)
    (k_10 : PySem.W.keepIn K (.ref x_10) = true)
    (a_30 : PySem.W.nsIn K mainGlobals "things_in" = some (some (.ref x_30)))
    (l_30 : K.lookup x_30 = some ⟨oc_30, od_30, .func (PySem.W.fnOf "things_in" "things_in" (Qn Q9) (Qj Q9) (Qc Q9) .none kV_30 dc_30 pm_30 an_30 cd_30 ct_30), sl_30⟩)
    (c_30 : PySem.W.codeIn K cd_30 "things_in" = true)
    (k_30 : PySem.W.keepIn K (.ref x_30) = true)
    (a_42 : PySem.W.nsIn K mainGlobals "boxes_in" = some (some (.ref x_42)))
    (l_42 : K.lookup x_42 = some ⟨oc_42, od_42, .func (PySem.W.fnOf "boxes_in" "boxes_in" (Qn Q3) (Qj Q3) (Qc Q3) .none kV_42 dc_42 pm_42 an_42 cd_42 ct_42), sl_42⟩)
    (c_42 : PySem.W.codeIn K cd_42 "boxes_in" = true)
    (k_42 : PySem.W.keepIn K (.ref x_42) = true)
    (a_47 : PySem.W.nsIn K mainGlobals "walk" = some (some (.ref x_47)))
    (l_47 : K.lookup x_47 = some ⟨oc_47, od_47, .func (PySem.W.fnOf "walk" "walk" (Qn QbC) (Qj QbC) (Qc QbC) .none kV_47 dc_47 pm_47 an_47 cd_47 ct_47), sl_47⟩)
    (c_47 : PySem.W.codeIn K cd_47 "walk" = true)
    (k_47 : PySem.W.keepIn K (.ref x_47) = true)
    (a_18 : PySem.W.findIn K (.ref CHouse) "kind" = some (some (.ref x_18)))
    (i_18 : PySem.W.isFn K (.ref x_18) = true)
    (l_18 : K.lookup x_18 = some ⟨oc_18, od_18, .func (PySem.W.fnOf "kind" "House.kind" (Qn ZC) (Qj ZC) (Qc ZC) .none kV_18 dc_18 pm_18 an_18 cd_18 ct_18), sl_18⟩)
    (c_18 : PySem.W.codeIn K cd_18 "House.kind" = true)
    (k_18 : PySem.W.keepIn K (.ref x_18) = true)
    (a_46 : PySem.W.nsIn K mainGlobals "row_of" = some (some (.ref x_46)))
    (l_46 : K.lookup x_46 = some ⟨oc_46, od_46, .func (PySem.W.fnOf "row_of" "row_of" (Qn Z8) (Qj Z8) (Qc Z8) .none kV_46 dc_46 pm_46 an_46 cd_46 ct_46), sl_46⟩)
    (c_46 : PySem.W.codeIn K cd_46 "row_of" = true)
    (k_46 : PySem.W.keepIn K (.ref x_46) = true)
    (a_16 : PySem.W.nsIn K mainGlobals "walk_draft" = some (some (.ref x_16)))
    (l_16 : K.lookup x_16 = some ⟨oc_16, od_16, .func (PySem.W.fnOf "walk_draft" "walk_draft" (Qn QO) (Qj QO) (Qc QO) .none kV_16 dc_16 pm_16 an_16 cd_16 ct_16), sl_16⟩)
    (c_16 : PySem.W.codeIn K cd_16 "walk_draft" = true)
    (k_16 : PySem.W.keepIn K (.ref x_16) = true)
    (a_44 : PySem.W.nsIn K mainGlobals "doubled" = some (some (.ref x_44)))
    (l_44 : K.lookup x_44 = some ⟨oc_44, od_44, .func (PySem.W.fnOf "doubled" "doubled" (Qn Qal) (Qj Qal) (Qc Qal) (.ref T_44) kV_44 dc_44 pm_44 an_44 cd_44 ct_44), sl_44⟩)
    (c_44 : PySem.W.codeIn K cd_44 "doubled" = true)
    (k_44 : PySem.W.keepIn K (.ref x_44) = true)
    (t_44 : K.lookup T_44 = some ⟨.type "tuple", none, .seq (List.toArray [.int 0 t_44_0]) ep_44, #[]⟩)
    (a_35 : PySem.W.nsIn K mainGlobals "_law_whole" = some (some (.ref x_35)))
    (l_35 : K.lookup x_35 = some ⟨oc_35, od_35, .func (PySem.W.fnOf "_law_whole" "_law_whole" (Qn ZO) (Qj ZO) (Qc ZO) .none kV_35 dc_35 pm_35 an_35 cd_35 ct_35), sl_35⟩)
    (c_35 : PySem.W.codeIn K cd_35 "_law_whole" = true)
    (k_35 : PySem.W.keepIn K (.ref x_35) = true)
    (a_14 : PySem.W.findIn K (.ref CHouse) "names" = some (some (.ref x_14)))
    (i_14 : PySem.W.isFn K (.ref x_14) = true)
    (l_14 : K.lookup x_14 = some ⟨oc_14, od_14, .func (PySem.W.fnOf "names" "House.names" (Qn Zk) (Qj Zk) (Qc Zk) .none kV_14 dc_14 pm_14 an_14 cd_14 ct_14), sl_14⟩)
    (c_14 : PySem.W.codeIn K cd_14 "House.names" = true)
    (k_14 : PySem.W.keepIn K (.ref x_14) = true)
    (a_37 : PySem.W.nsIn K mainGlobals "_law_read" = some (some (.ref x_37)))
    (l_37 : K.lookup x_37 = some ⟨oc_37, od_37, .func (PySem.W.fnOf "_law_read" "_law_read" (Qn Zs) (Qj Zs) (Qc Zs) .none kV_37 dc_37 pm_37 an_37 cd_37 ct_37), sl_37⟩)
    (c_37 : PySem.W.codeIn K cd_37 "_law_read" = true)
    (k_37 : PySem.W.keepIn K (.ref x_37) = true)
    (a_29 : PySem.W.nsIn K mainGlobals "_law_names" = some (some (.ref x_29)))
    (l_29 : K.lookup x_29 = some ⟨oc_29, od_29, .func (PySem.W.fnOf "_law_names" "_law_names" (Qn ZT) (Qj ZT) (Qc ZT) .none kV_29 dc_29 pm_29 an_29 cd_29 ct_29), sl_29⟩)
    (c_29 : PySem.W.codeIn K cd_29 "_law_names" = true)
    (k_29 : PySem.W.keepIn K (.ref x_29) = true)
    (a_24 : PySem.W.nsIn K mainGlobals "_law_shape" = some (some (.ref x_24)))
    (l_24 : K.lookup x_24 = some ⟨oc_24, od_24, .func (PySem.W.fnOf "_law_shape" "_law_shape" (Qn ZS) (Qj ZS) (Qc ZS) .none kV_24 dc_24 pm_24 an_24 cd_24 ct_24), sl_24⟩)
    (c_24 : PySem.W.codeIn K cd_24 "_law_shape" = true)
    (k_24 : PySem.W.keepIn K (.ref x_24) = true)
    (a_7 : PySem.W.findIn K (.ref CHouse) "waiting" = some (some (.ref x_7)))
    (i_7 : PySem.W.isFn K (.ref x_7) = true)
    (l_7 : K.lookup x_7 = some ⟨oc_7, od_7, .func (PySem.W.fnOf "waiting" "House.waiting" (Qn Q4) (Qj Q4) (Qc Q4) .none kV_7 dc_7 pm_7 an_7 cd_7 ct_7), sl_7⟩)
    (c_7 : PySem.W.codeIn K cd_7 "House.waiting" = true)
    (k_7 : PySem.W.keepIn K (.ref x_7) = true)
    (a_8 : PySem.W.findIn K (.ref CHouse) "words" = some (some (.ref x_8)))
    (i_8 : PySem.W.isFn K (.ref x_8) = true)
    (l_8 : K.lookup x_8 = some ⟨oc_8, od_8, .func (PySem.W.fnOf "words" "House.words" (Qn Zi) (Qj Zi) (Qc Zi) .none kV_8 dc_8 pm_8 an_8 cd_8 ct_8), sl_8⟩)
    (c_8 : PySem.W.codeIn K cd_8 "House.words" = true)
    (k_8 : PySem.W.keepIn K (.ref x_8) = true)
    (a_19 : PySem.W.nsIn K mainGlobals "_law_guards" = some (some (.ref x_19)))
    (l_19 : K.lookup x_19 = some ⟨oc_19, od_19, .func (PySem.W.fnOf "_law_guards" "_law_guards" (Qn ZG) (Qj ZG) (Qc ZG) .none kV_19 dc_19 pm_19 an_19 cd_19 ct_19), sl_19⟩)
    (c_19 : PySem.W.codeIn K cd_19 "_law_guards" = true)
    (k_19 : PySem.W.keepIn K (.ref x_19) = true)
    (a_39 : PySem.W.nsIn K mainGlobals "_law_same" = some (some (.ref x_39)))
    (l_39 : K.lookup x_39 = some ⟨oc_39, od_39, .func (PySem.W.fnOf "_law_same" "_law_same" (Qn Qaa) (Qj Qaa) (Qc Qaa) .none kV_39 dc_39 pm_39 an_39 cd_39 ct_39), sl_39⟩)
    (c_39 : PySem.W.codeIn K cd_39 "_law_same" = true)
    (k_39 : PySem.W.keepIn K (.ref x_39) = true)
    (a_22 : PySem.W.findIn K (.ref CHouse) "held" = some (some (.ref x_22)))
    (i_22 : PySem.W.isFn K (.ref x_22) = true)
    (l_22 : K.lookup x_22 = some ⟨oc_22, od_22, .func (PySem.W.fnOf "held" "House.held" (Qn ZE) (Qj ZE) (Qc ZE) .none kV_22 dc_22 pm_22 an_22 cd_22 ct_22), sl_22⟩)
    (c_22 : PySem.W.codeIn K cd_22 "House.held" = true)
    (k_22 : PySem.W.keepIn K (.ref x_22) = true)
    (a_45 : PySem.W.nsIn K mainGlobals "_law_as" = some (some (.ref x_45)))
    (l_45 : K.lookup x_45 = some ⟨oc_45, od_45, .func (PySem.W.fnOf "_law_as" "_law_as" (Qn Qaz) (Qj Qaz) (Qc Qaz) .none kV_45 dc_45 pm_45 an_45 cd_45 ct_45), sl_45⟩)
    (c_45 : PySem.W.codeIn K cd_45 "_law_as" = true)
    (k_45 : PySem.W.keepIn K (.ref x_45) = true)
    (a_48 : PySem.W.nsIn K mainGlobals "law" = some (some (.ref x_48)))
    (l_48 : K.lookup x_48 = some ⟨oc_48, od_48, .func (PySem.W.fnOf "law" "law" (Qn QaZ) (Qj QaZ) (Qc QaZ) .none kV_48 dc_48 pm_48 an_48 cd_48 ct_48), sl_48⟩)
    (c_48 : PySem.W.codeIn K cd_48 "law" = true)
    (k_48 : PySem.W.keepIn K (.ref x_48) = true)
    (pgHouse : PySem.W.plainGet K CHouse Str.empty = true)
    (hdHouse : PySem.W.hasDictIn K CHouse = true)
    (poHouse : PySem.W.plainOver K CHouse = true)
    (saHouse : PySem.W.findIn K (.ref CHouse) "__setattr__" = some (some (.builtin "object.__setattr__")))
    (mkHouse : PySem.W.makesIn K CHouse = true)
    (kcHouse : PySem.W.keepIn K (.ref CHouse) = true)
    (n_House_room : PySem.W.findIn K (.ref CHouse) "room" = some none)
    (n_House_slots : PySem.W.findIn K (.ref CHouse) "slots" = some none)
    (n_House_last_name : PySem.W.findIn K (.ref CHouse) "last_name" = some none)
    (n_House_kinds : PySem.W.findIn K (.ref CHouse) "kinds" = some none)
    (n_House_fields : PySem.W.findIn K (.ref CHouse) "fields" = some none)
    (n_House_queues : PySem.W.findIn K (.ref CHouse) "queues" = some none)
    (n_House_told : PySem.W.findIn K (.ref CHouse) "told" = some none)
    (z_len : PySem.W.nsIn K mainGlobals "len" = some none)
    (z_sorted : PySem.W.nsIn K mainGlobals "sorted" = some none)
    (z_range : PySem.W.nsIn K mainGlobals "range" = some none)
    (z_list : PySem.W.nsIn K mainGlobals "list" = some none)
    (z_isinstance : PySem.W.nsIn K mainGlobals "isinstance" = some none)
    (z_int : PySem.W.nsIn K mainGlobals "int" = some none)
    (z_bool : PySem.W.nsIn K mainGlobals "bool" = some none)
    (z_tuple : PySem.W.nsIn K mainGlobals "tuple" = some none)
    (z_str : PySem.W.nsIn K mainGlobals "str" = some none)
    (z_enumerate : PySem.W.nsIn K mainGlobals "enumerate" = some none)
    (z_zip : PySem.W.nsIn K mainGlobals "zip" = some none)
    (z_dict : PySem.W.nsIn K mainGlobals "dict" = some none)
    (xg : PySem.W.nsIn K mainGlobals "GUARDS" = some (some (.int 4 tg)))
    (xf : PySem.W.nsIn K mainGlobals "FIXED_SIZES" = some (some (.ref aF)))
    (lf : K.lookup aF = some ⟨.type "dict", none, .dict #[⟨hs1, .str "weak" tw1, .int 1 tw2⟩, ⟨hs2, .str "pair" tw3, .int 2 tw4⟩] ep0, #[]⟩)
    (h_1 : hs1 = hashStr w "weak")
    (h_2 : hs2 = hashStr w "pair")
    (h_3 : (aF == sysModules) = false)
    : ∃ fd : FuncData, (∀ (s : Shared) (v : Value), BindsTo s fd ⟨[v], []⟩ [("script", v)]) ∧ ∀ base : Heap, K.In base → base.Ns mainGlobals mg → FnOk l.prog w K mg base CX0 8 fa fd ["script"] (QiE K) := by
  have e := hfa.symm.trans (PySem.W.mg_of X G a_48)
  cases e
  have F_13 := QG (st := Zn) l_13 c_13 k_13
  have b0_13 : Binds K _ ["script", "k"] [] := F_13.binds (ps := ["script", "k"]) fun _ _ _ _ _ _ us hl => match us, hl with | [_, _], _ => rfl
  have F_36 := QG (st := Qab) l_36 c_36 k_36
  have b0_36 : Binds K _ ["script"] [] := F_36.binds (ps := ["script"]) fun _ _ _ _ _ _ us hl => match us, hl with | [_], _ => rfl
  have F_40 := QG (st := Qac) l_40 c_40 k_40
  have b0_40 : Binds K _ ["script", "k"] [] := F_40.binds (ps := ["script", "k"]) fun _ _ _ _ _ _ us hl => match us, hl with | [_, _], _ => rfl
  have F_20 := QG (st := ZF) l_20 c_20 k_20
  have b0_20 : Binds K _ ["script", "k"] [] := F_20.binds (ps := ["script", "k"]) fun _ _ _ _ _ _ us hl => match us, hl with | [_, _], _ => rfl
  have F_33 := QG (st := ZQ) l_33 c_33 k_33
  have b0_33 : Binds K _ ["script", "k", "many"] [] := F_33.binds (ps := ["script", "k", "many"]) fun _ _ _ _ _ _ us hl => match us, hl with | [_, _, _], _ => rfl
  have F_27 := QG (st := Za) l_27 c_27 k_27
  have b0_27 : Binds K _ ["script", "many"] [] := F_27.binds (ps := ["script", "many"]) fun _ _ _ _ _ _ us hl => match us, hl with | [_, _], _ => rfl
  have F_32 := QG (st := ZR) l_32 c_32 k_32
  have b0_32 : Binds K _ ["script", "count", "many"] [] := F_32.binds (ps := ["script", "count", "many"]) fun _ _ _ _ _ _ us hl => match us, hl with | [_, _, _], _ => rfl
  have F_23 := Qe2 (st := QN) l_23 c_23 k_23 t_23 rfl
  have b0_23 : Binds K _ ["self", "room", "slots"] [] := F_23.binds fun _ _ _ _ _ _ _ us hl => by
    have hl' : us.length = 3 := by simp at hl; omega
    match us, hl' with | [_, _, _], _ => exact ⟨_, rfl, rfl⟩
  have b1_23 : Binds K _ ["self", "room", "slots"] [.int 4 t_23_0] := F_23.binds fun _ _ _ _ _ _ _ us hl => by
    have hl' : us.length = 2 := by simp at hl; omega
    match us, hl' with | [_, _], _ => exact ⟨_, rfl, rfl⟩
  have F_3 := QG (st := QR) l_3 c_3 k_3
  have b0_3 : Binds K _ ["self", "slot"] [] := F_3.binds (ps := ["self", "slot"]) fun _ _ _ _ _ _ us hl => match us, hl with | [_, _], _ => rfl
  have F_6 := QG (st := QZ) l_6 c_6 k_6
  have b0_6 : Binds K _ ["self", "count"] [] := F_6.binds (ps := ["self", "count"]) fun _ _ _ _ _ _ us hl => match us, hl with | [_, _], _ => rfl
  have F_5 := Qe2 (st := QU) l_5 c_5 k_5 t_5 rfl
  have b0_5 : Binds K _ ["self", "count", "besides"] [] := F_5.binds fun _ _ _ _ _ _ _ us hl => by
    have hl' : us.length = 3 := by simp at hl; omega
    match us, hl' with | [_, _, _], _ => exact ⟨_, rfl, rfl⟩
  have b1_5 : Binds K _ ["self", "count", "besides"] [.none] := F_5.binds fun _ _ _ _ _ _ _ us hl => by
    have hl' : us.length = 2 := by simp at hl; omega
    match us, hl' with | [_, _], _ => exact ⟨_, rfl, rfl⟩
  have F_38 := QG (st := Qad) l_38 c_38 k_38
  have b0_38 : Binds K _ ["thing"] [] := F_38.binds (ps := ["thing"]) fun _ _ _ _ _ _ us hl => match us, hl with | [_], _ => rfl
  have F_31 := QG (st := ZV) l_31 c_31 k_31
  have b0_31 : Binds K _ ["name"] [] := F_31.binds (ps := ["name"]) fun _ _ _ _ _ _ us hl => match us, hl with | [_], _ => rfl
  have F_43 := QG (st := Z3) l_43 c_43 k_43
  have b0_43 : Binds K _ ["thing", "new_names"] [] := F_43.binds (ps := ["thing", "new_names"]) fun _ _ _ _ _ _ us hl => match us, hl with | [_, _], _ => rfl
  have F_9 := QG (st := Qw) l_9 c_9 k_9
  have b0_9 : Binds K _ ["self", "draft", "slot"] [] := F_9.binds (ps := ["self", "draft", "slot"]) fun _ _ _ _ _ _ us hl => match us, hl with | [_, _, _], _ => rfl
  have F_15 := Qe2 (st := ZB) l_15 c_15 k_15 t_15 rfl
  have b0_15 : Binds K _ ["self", "kind", "size", "slot"] [] := F_15.binds fun _ _ _ _ _ _ _ us hl => by
    have hl' : us.length = 4 := by simp at hl; omega
    match us, hl' with | [_, _, _, _], _ => exact ⟨_, rfl, rfl⟩
  have b1_15 : Binds K _ ["self", "kind", "size", "slot"] [.int 0 t_15_1] := F_15.binds fun _ _ _ _ _ _ _ us hl => by
    have hl' : us.length = 3 := by simp at hl; omega
    match us, hl' with | [_, _, _], _ => exact ⟨_, rfl, rfl⟩
  have b2_15 : Binds K _ ["self", "kind", "size", "slot"] [.int 0 t_15_0, .int 0 t_15_1] := F_15.binds fun _ _ _ _ _ _ _ us hl => by
    have hl' : us.length = 2 := by simp at hl; omega
    match us, hl' with | [_, _], _ => exact ⟨_, rfl, rfl⟩
  have F_4 := QG (st := QV) l_4 c_4 k_4
  have b0_4 : Binds K _ ["self", "name"] [] := F_4.binds (ps := ["self", "name"]) fun _ _ _ _ _ _ us hl => match us, hl with | [_, _], _ => rfl
  have F_0 := QG (st := QJ) l_0 c_0 k_0
  have b0_0 : Binds K _ ["self", "thing"] [] := F_0.binds (ps := ["self", "thing"]) fun _ _ _ _ _ _ us hl => match us, hl with | [_, _], _ => rfl
  have F_1 := QG (st := QL) l_1 c_1 k_1
  have b0_1 : Binds K _ ["self", "name", "at"] [] := F_1.binds (ps := ["self", "name", "at"]) fun _ _ _ _ _ _ us hl => match us, hl with | [_, _, _], _ => rfl
  have F_25 := QG (st := ZN) l_25 c_25 k_25
  have b0_25 : Binds K _ ["self", "name", "at", "thing"] [] := F_25.binds (ps := ["self", "name", "at", "thing"]) fun _ _ _ _ _ _ us hl => match us, hl with | [_, _, _, _], _ => rfl
  have F_17 := QG (st := ZD) l_17 c_17 k_17
  have b0_17 : Binds K _ ["self", "slot", "thing"] [] := F_17.binds (ps := ["self", "slot", "thing"]) fun _ _ _ _ _ _ us hl => match us, hl with | [_, _, _], _ => rfl
  have F_26 := QG (st := ZU) l_26 c_26 k_26
  have b0_26 : Binds K _ ["kinds", "rows", "slots", "extra"] [] := F_26.binds (ps := ["kinds", "rows", "slots", "extra"]) fun _ _ _ _ _ _ us hl => match us, hl with | [_, _, _, _], _ => rfl
  have F_34 := QG (st := ZP) l_34 c_34 k_34
  have b0_34 : Binds K _ ["script", "many"] [] := F_34.binds (ps := ["script", "many"]) fun _ _ _ _ _ _ us hl => match us, hl with | [_, _], _ => rfl
  have F_2 := QG (st := QK) l_2 c_2 k_2
  have b0_2 : Binds K _ ["self", "guard"] [] := F_2.binds (ps := ["self", "guard"]) fun _ _ _ _ _ _ us hl => match us, hl with | [_, _], _ => rfl
  have F_12 := QG (st := Zj) l_12 c_12 k_12
  have b0_12 : Binds K _ ["self", "guard", "name"] [] := F_12.binds (ps := ["self", "guard", "name"]) fun _ _ _ _ _ _ us hl => match us, hl with | [_, _, _], _ => rfl
  have F_11 := QG (st := Zm) l_11 c_11 k_11
  have b0_11 : Binds K _ ["house", "waits"] [] := F_11.binds (ps := ["house", "waits"]) fun _ _ _ _ _ _ us hl => match us, hl with | [_, _], _ => rfl
  have F_28 := QG (st := Zb) l_28 c_28 k_28
  have b0_28 : Binds K _ ["things"] [] := F_28.binds (ps := ["things"]) fun _ _ _ _ _ _ us hl => match us, hl with | [_], _ => rfl
  have F_41 := QG (st := Z9) l_41 c_41 k_41
  have b0_41 : Binds K _ ["rows", "name"] [] := F_41.binds (ps := ["rows", "name"]) fun _ _ _ _ _ _ us hl => match us, hl with | [_, _], _ => rfl
  have F_21 := QG (st := ZA) l_21 c_21 k_21
  have b0_21 : Binds K _ ["self", "name"] [] := F_21.binds (ps := ["self", "name"]) fun _ _ _ _ _ _ us hl => match us, hl with | [_, _], _ => rfl
  have F_10 := QG (st := Zl) l_10 c_10 k_10
  have b0_10 : Binds K _ ["self", "name", "at"] [] := F_10.binds (ps := ["self", "name", "at"]) fun _ _ _ _ _ _ us hl => match us, hl with | [_, _, _], _ => rfl
  have F_30 := QG (st := Q9) l_30 c_30 k_30
  have b0_30 : Binds K _ ["house", "name"] [] := F_30.binds (ps := ["house", "name"]) fun _ _ _ _ _ _ us hl => match us, hl with | [_, _], _ => rfl
  have F_42 := QG (st := Q3) l_42 c_42 k_42
  have b0_42 : Binds K _ ["house", "name"] [] := F_42.binds (ps := ["house", "name"]) fun _ _ _ _ _ _ us hl => match us, hl with | [_, _], _ => rfl
  have F_47 := QG (st := QbC) l_47 c_47 k_47
  have b0_47 : Binds K _ ["house", "name"] [] := F_47.binds (ps := ["house", "name"]) fun _ _ _ _ _ _ us hl => match us, hl with | [_, _], _ => rfl
  have F_18 := QG (st := ZC) l_18 c_18 k_18
  have b0_18 : Binds K _ ["self", "name"] [] := F_18.binds (ps := ["self", "name"]) fun _ _ _ _ _ _ us hl => match us, hl with | [_, _], _ => rfl
  have F_46 := QG (st := Z8) l_46 c_46 k_46
  have b0_46 : Binds K _ ["house", "name", "new_names"] [] := F_46.binds (ps := ["house", "name", "new_names"]) fun _ _ _ _ _ _ us hl => match us, hl with | [_, _, _], _ => rfl
  have F_16 := QG (st := QO) l_16 c_16 k_16
  have b0_16 : Binds K _ ["house", "name"] [] := F_16.binds (ps := ["house", "name"]) fun _ _ _ _ _ _ us hl => match us, hl with | [_, _], _ => rfl
  have F_44 := Qe2 (st := Qal) l_44 c_44 k_44 t_44 rfl
  have b0_44 : Binds K _ ["house", "name", "slot"] [] := F_44.binds fun _ _ _ _ _ _ _ us hl => by
    have hl' : us.length = 3 := by simp at hl; omega
    match us, hl' with | [_, _, _], _ => exact ⟨_, rfl, rfl⟩
  have b1_44 : Binds K _ ["house", "name", "slot"] [.int 0 t_44_0] := F_44.binds fun _ _ _ _ _ _ _ us hl => by
    have hl' : us.length = 2 := by simp at hl; omega
    match us, hl' with | [_, _], _ => exact ⟨_, rfl, rfl⟩
  have F_35 := QG (st := ZO) l_35 c_35 k_35
  have b0_35 : Binds K _ ["found"] [] := F_35.binds (ps := ["found"]) fun _ _ _ _ _ _ us hl => match us, hl with | [_], _ => rfl
  have F_14 := QG (st := Zk) l_14 c_14 k_14
  have b0_14 : Binds K _ ["self"] [] := F_14.binds (ps := ["self"]) fun _ _ _ _ _ _ us hl => match us, hl with | [_], _ => rfl
  have F_37 := QG (st := Zs) l_37 c_37 k_37
  have b0_37 : Binds K _ ["house"] [] := F_37.binds (ps := ["house"]) fun _ _ _ _ _ _ us hl => match us, hl with | [_], _ => rfl
  have F_29 := QG (st := ZT) l_29 c_29 k_29
  have b0_29 : Binds K _ ["found", "due"] [] := F_29.binds (ps := ["found", "due"]) fun _ _ _ _ _ _ us hl => match us, hl with | [_, _], _ => rfl
  have F_24 := QG (st := ZS) l_24 c_24 k_24
  have b0_24 : Binds K _ ["kinds", "rows", "name"] [] := F_24.binds (ps := ["kinds", "rows", "name"]) fun _ _ _ _ _ _ us hl => match us, hl with | [_, _, _], _ => rfl
  have F_7 := QG (st := Q4) l_7 c_7 k_7
  have b0_7 : Binds K _ ["self", "guard"] [] := F_7.binds (ps := ["self", "guard"]) fun _ _ _ _ _ _ us hl => match us, hl with | [_, _], _ => rfl
  have F_8 := QG (st := Zi) l_8 c_8 k_8
  have b0_8 : Binds K _ ["self", "guard"] [] := F_8.binds (ps := ["self", "guard"]) fun _ _ _ _ _ _ us hl => match us, hl with | [_, _], _ => rfl
  have F_19 := QG (st := ZG) l_19 c_19 k_19
  have b0_19 : Binds K _ ["house", "waits", "told"] [] := F_19.binds (ps := ["house", "waits", "told"]) fun _ _ _ _ _ _ us hl => match us, hl with | [_, _, _], _ => rfl
  have F_39 := QG (st := Qaa) l_39 c_39 k_39
  have b0_39 : Binds K _ ["found", "due"] [] := F_39.binds (ps := ["found", "due"]) fun _ _ _ _ _ _ us hl => match us, hl with | [_, _], _ => rfl
  have F_22 := QG (st := ZE) l_22 c_22 k_22
  have b0_22 : Binds K _ ["self", "slot"] [] := F_22.binds (ps := ["self", "slot"]) fun _ _ _ _ _ _ us hl => match us, hl with | [_, _], _ => rfl
  have F_45 := QG (st := Qaz) l_45 c_45 k_45
  have b0_45 : Binds K _ ["house", "kinds", "rows", "slots"] [] := F_45.binds (ps := ["house", "kinds", "rows", "slots"]) fun _ _ _ _ _ _ us hl => match us, hl with | [_, _, _, _], _ => rfl
  have F_48 := QG (st := QaZ) l_48 c_48 k_48
  have HT : HTxt K mg CHouse := ⟨⟨pgHouse, hdHouse, poHouse, saHouse⟩, n_House_room, n_House_slots, n_House_last_name, n_House_kinds, n_House_fields, n_House_queues, n_House_told, PySem.W.mg_of X G aCHouse, PySem.W.mg_none_of X G z_len, PySem.W.mg_none_of X G z_sorted, PySem.W.mg_none_of X G z_range, PySem.W.mg_none_of X G z_list, PySem.W.mg_none_of X G z_isinstance, ⟨_, PySem.W.mg_of X G xg⟩⟩
  have T : TX K mg CHouse := { HT with g_int := PySem.W.mg_none_of X G z_int, g_bool := PySem.W.mg_none_of X G z_bool, g_tuple := PySem.W.mg_none_of X G z_tuple, g_str := PySem.W.mg_none_of X G z_str, g_enumerate := PySem.W.mg_none_of X G z_enumerate, s_ib := (by rfl), s_it := (by rfl) }
  have one : ∀ {α : Type} {p : α → Prop} {x : α}, p x → ∀ y ∈ [x], p y := fun h y hy => by rw [List.mem_singleton.mp hy]; exact h
  have two : ∀ {α : Type} {p : α → Prop} {x z : α}, p x → p z → ∀ y ∈ [x, z], p y := fun h h2 y hy => by rcases List.mem_cons.mp hy with e | e; (rw [e]; exact h); (rw [List.mem_singleton.mp e]; exact h2)
  have three : ∀ {α : Type} {p : α → Prop} {x z t : α}, p x → p z → p t → ∀ y ∈ [x, z, t], p y := fun h h2 h3 y hy => by rcases List.mem_cons.mp hy with e | e; (rw [e]; exact h); (exact two h2 h3 y e)
  refine ⟨PySem.W.fnOf "law" "law" (Qn QaZ) (Qj QaZ) (Qc QaZ) .none kV_48 dc_48 pm_48 an_48 cd_48 ct_48, fun s v => .of_eq rfl, fun base _ _ => ?_⟩
  have KD : Qi1 l.prog w K aF QiV := kdict2 lf h_1 h_2 (by decide +kernel) h_3
  have D_law_cell_at : DefOk l.prog w K mg base 1 "_law_cell_at" _ _ [[]] := ⟨_, _, PySem.W.mg_of X G a_13, k_13, Qc0 (n := 0) F_13 T , one b0_13⟩
  have D_law_many : DefOk l.prog w K mg base 2 "_law_many" _ _ [[]] := ⟨_, _, PySem.W.mg_of X G a_36, k_36, QeQ (n := 1) F_36 T (D_law_cell_at.mono (by decide)), one b0_36⟩
  have D_law_draw : DefOk l.prog w K mg base 2 "_law_draw" _ _ [[]] := ⟨_, _, PySem.W.mg_of X G a_40, k_40, QeR (n := 1) F_40 T (D_law_cell_at.mono (by decide)), one b0_40⟩
  have D_law_number : DefOk l.prog w K mg base 3 "_law_number" _ _ [[]] := ⟨_, _, PySem.W.mg_of X G a_20, k_20, QdB (n := 2) F_20 T (D_law_draw.mono (by decide)) (D_law_cell_at.mono (by decide)), one b0_20⟩
  have D_law_thing : DefOk l.prog w K mg base 4 "_law_thing" _ _ [[]] := ⟨_, _, PySem.W.mg_of X G a_33, k_33, Qea (n := 3) F_33 T (D_law_draw.mono (by decide)) (D_law_number.mono (by decide)), one b0_33⟩
  have D_law_graph : DefOk l.prog w K mg base 5 "_law_graph" _ _ [[]] := ⟨_, _, PySem.W.mg_of X G a_27, k_27, Qef (n := 4) F_27 T (D_law_draw.mono (by decide)) (D_law_thing.mono (by decide)), one b0_27⟩
  have D_law_slots : DefOk l.prog w K mg base 3 "_law_slots" _ _ [[]] := ⟨_, _, PySem.W.mg_of X G a_32, k_32, Qeb (n := 2) F_32 T (D_law_draw.mono (by decide)), one b0_32⟩
  have D_House : MakeOk l.prog w K mg base CHouse 2 _ _ [[], [.int 4 t_23_0]] := ⟨_, _, 1, by decide, ⟨mkHouse, a_23, i_23, kcHouse⟩, Qdx (n := 0) F_23 T , two b0_23 b1_23⟩
  have M_check_slot : MethOk l.prog w K mg base CHouse 1 "check_slot" _ _ [[]] := ⟨_, _, ⟨a_3, i_3, k_3⟩, Qbq (n := 0) F_3 T , one b0_3⟩
  have M_has_room : MethOk l.prog w K mg base CHouse 1 "has_room" _ _ [[]] := ⟨_, _, ⟨a_6, i_6, k_6⟩, Qb1 (n := 0) F_6 T , one b0_6⟩
  have M_make_room : MethOk l.prog w K mg base CHouse 2 "make_room" _ _ [[], [.none]] := ⟨_, _, ⟨a_5, i_5, k_5⟩, QbL (n := 1) F_5 T (M_has_room.mono (by decide)), two b0_5 b1_5⟩
  have D_box_name : DefOk l.prog w K mg base 1 "box_name" _ _ [[]] := ⟨_, _, PySem.W.mg_of X G a_38, k_38, QeU (n := 0) F_38 T , one b0_38⟩
  have D_box_thing : DefOk l.prog w K mg base 1 "box_thing" _ _ [[]] := ⟨_, _, PySem.W.mg_of X G a_31, k_31, Qeh (n := 0) F_31 T , one b0_31⟩
  have D_renamed : DefOk l.prog w K mg base 2 "renamed" _ _ [[]] := ⟨_, _, PySem.W.mg_of X G a_43, k_43, Qfu (n := 1) F_43 T (D_box_name.mono (by decide)) (D_box_thing.mono (by decide)), one b0_43⟩
  have M_build : MethOk l.prog w K mg base CHouse 3 "build" _ _ [[]] := ⟨_, _, ⟨a_9, i_9, k_9⟩, QcY (n := 2) F_9 T (PySem.W.mg_none_of X G z_zip) (M_has_room.mono (by decide)) (D_renamed.mono (by decide)) (D_box_thing.mono (by decide)), one b0_9⟩
  have M_make : MethOk l.prog w K mg base CHouse 4 "make" _ _ [[], [.int 0 t_15_0, .int 0 t_15_1], [.int 0 t_15_1]] := ⟨_, _, ⟨a_15, i_15, k_15⟩, Qdv (n := 3) F_15 T (PySem.W.mg_of X G xf) KD (M_check_slot.mono (by decide)) (M_make_room.mono (by decide)) (M_build.mono (by decide)), three b0_15 b2_15 b1_15⟩
  have M_check_box : MethOk l.prog w K mg base CHouse 1 "check_box" _ _ [[]] := ⟨_, _, ⟨a_4, i_4, k_4⟩, QbM (n := 0) F_4 T , one b0_4⟩
  have M_check_thing : MethOk l.prog w K mg base CHouse 2 "check_thing" _ _ [[]] := ⟨_, _, ⟨a_0, i_0, k_0⟩, Qa9 (n := 1) F_0 T (D_box_name.mono (by decide)) (M_check_box.mono (by decide)), one b0_0⟩
  have M_check_field : MethOk l.prog w K mg base CHouse 1 "check_field" _ _ [[]] := ⟨_, _, ⟨a_1, i_1, k_1⟩, Qbb (n := 0) F_1 T , one b0_1⟩
  have M_put : MethOk l.prog w K mg base CHouse 3 "put" _ _ [[]] := ⟨_, _, ⟨a_25, i_25, k_25⟩, Qd5 (n := 2) F_25 T (M_check_box.mono (by decide)) (M_check_thing.mono (by decide)) (M_check_field.mono (by decide)), one b0_25⟩
  have M_hold : MethOk l.prog w K mg base CHouse 3 "hold" _ _ [[]] := ⟨_, _, ⟨a_17, i_17, k_17⟩, Qdy (n := 2) F_17 T (M_check_slot.mono (by decide)) (M_check_thing.mono (by decide)), one b0_17⟩
  have D_law_house : DefOk l.prog w K mg base 5 "_law_house" _ _ [[]] := ⟨_, _, PySem.W.mg_of X G a_26, k_26, Qee (n := 4) F_26 T (D_House.mono (by decide)) (M_make.mono (by decide)) (M_put.mono (by decide)) (M_hold.mono (by decide)), one b0_26⟩
  have D_law_waits : DefOk l.prog w K mg base 3 "_law_waits" _ _ [[]] := ⟨_, _, PySem.W.mg_of X G a_34, k_34, Qd9 (n := 2) F_34 T (D_law_draw.mono (by decide)), one b0_34⟩
  have M_check_guard : MethOk l.prog w K mg base CHouse 1 "check_guard" _ _ [[]] := ⟨_, _, ⟨a_2, i_2, k_2⟩, Qba (n := 0) F_2 T , one b0_2⟩
  have M_watch : MethOk l.prog w K mg base CHouse 2 "watch" _ _ [[]] := ⟨_, _, ⟨a_12, i_12, k_12⟩, QcW (n := 1) F_12 T (M_check_guard.mono (by decide)) (M_check_box.mono (by decide)), one b0_12⟩
  have D_law_watched : DefOk l.prog w K mg base 3 "_law_watched" _ _ [[]] := ⟨_, _, PySem.W.mg_of X G a_11, k_11, QcZ (n := 2) F_11 T (M_watch.mono (by decide)), one b0_11⟩
  have D_law_boxes : DefOk l.prog w K mg base 1 "_law_boxes" _ _ [[]] := ⟨_, _, PySem.W.mg_of X G a_28, k_28, Qeg (n := 0) F_28 T , one b0_28⟩
  have D_law_walk : DefOk l.prog w K mg base 2 "_law_walk" _ _ [[]] := ⟨_, _, PySem.W.mg_of X G a_41, k_41, QeN (n := 1) F_41 T (D_law_boxes.mono (by decide)), one b0_41⟩
  have M_size : MethOk l.prog w K mg base CHouse 2 "size" _ _ [[]] := ⟨_, _, ⟨a_21, i_21, k_21⟩, Qdu (n := 1) F_21 T (M_check_box.mono (by decide)), one b0_21⟩
  have M_field : MethOk l.prog w K mg base CHouse 2 "field" _ _ [[]] := ⟨_, _, ⟨a_10, i_10, k_10⟩, QcX (n := 1) F_10 T (M_check_box.mono (by decide)) (M_check_field.mono (by decide)), one b0_10⟩
  have D_things_in : DefOk l.prog w K mg base 3 "things_in" _ _ [[]] := ⟨_, _, PySem.W.mg_of X G a_30, k_30, Qd6 (n := 2) F_30 T (M_size.mono (by decide)) (M_field.mono (by decide)), one b0_30⟩
  have D_boxes_in : DefOk l.prog w K mg base 4 "boxes_in" _ _ [[]] := ⟨_, _, PySem.W.mg_of X G a_42, k_42, QeT (n := 3) F_42 T (D_things_in.mono (by decide)) (D_box_name.mono (by decide)), one b0_42⟩
  have D_walk : DefOk l.prog w K mg base 5 "walk" _ _ [[]] := ⟨_, _, PySem.W.mg_of X G a_47, k_47, QhZ (n := 4) F_47 T (M_check_box.mono (by decide)) (D_boxes_in.mono (by decide)), one b0_47⟩
  have M_build_d : MethOk l.prog w K mg base CHouse 3 "build" _ _ [[]] := ⟨_, _, ⟨a_9, i_9, k_9⟩, Qci (n := 2) F_9 T (PySem.W.mg_none_of X G z_zip) (M_has_room.mono (by decide)) (D_renamed.mono (by decide)) (D_box_thing.mono (by decide)), one b0_9⟩
  have D_renamed_d : DefOk l.prog w K mg base 2 "renamed" _ _ [[]] := ⟨_, _, PySem.W.mg_of X G a_43, k_43, Qd7 (n := 1) F_43 T (D_box_name.mono (by decide)) (D_box_thing.mono (by decide)), one b0_43⟩
  have M_kind : MethOk l.prog w K mg base CHouse 2 "kind" _ _ [[]] := ⟨_, _, ⟨a_18, i_18, k_18⟩, Qdw (n := 1) F_18 T (M_check_box.mono (by decide)), one b0_18⟩
  have D_row_of : DefOk l.prog w K mg base 4 "row_of" _ _ [[]] := ⟨_, _, PySem.W.mg_of X G a_46, k_46, Qf4 (n := 3) F_46 T (D_things_in.mono (by decide)) (D_renamed_d.mono (by decide)) (M_kind.mono (by decide)), one b0_46⟩
  have D_walk_draft : DefOk l.prog w K mg base 6 "walk_draft" _ _ [[]] := ⟨_, _, PySem.W.mg_of X G a_16, k_16, QdA (n := 5) F_16 T (PySem.W.mg_none_of X G z_dict) (D_walk.mono (by decide)) (D_row_of.mono (by decide)), one b0_16⟩
  have D_doubled : DefOk l.prog w K mg base 7 "doubled" _ _ [[], [.int 0 t_44_0]] := ⟨_, _, PySem.W.mg_of X G a_44, k_44, Qfv (n := 6) F_44 T (M_check_slot.mono (by decide)) (M_make_room.mono (by decide)) (D_walk.mono (by decide)) (M_build_d.mono (by decide)) (D_walk_draft.mono (by decide)), two b0_44 b1_44⟩
  have D_law_whole : DefOk l.prog w K mg base 1 "_law_whole" _ _ [[]] := ⟨_, _, PySem.W.mg_of X G a_35, k_35, Qd8 (n := 0) F_35 T , one b0_35⟩
  have M_names_a : MethOk l.prog w K mg base CHouse 1 "names" _ _ [[]] := ⟨_, _, ⟨a_14, i_14, k_14⟩, Qch (n := 0) F_14 T , one b0_14⟩
  have D_law_read : DefOk l.prog w K mg base 3 "_law_read" _ _ [[]] := ⟨_, _, PySem.W.mg_of X G a_37, k_37, QeP (n := 2) F_37 T (M_names_a.mono (by decide)) (M_kind.mono (by decide)) (M_size.mono (by decide)) (M_field.mono (by decide)), one b0_37⟩
  have D_law_names : DefOk l.prog w K mg base 2 "_law_names" _ _ [[]] := ⟨_, _, PySem.W.mg_of X G a_29, k_29, Qed (n := 1) F_29 T (D_law_whole.mono (by decide)), one b0_29⟩
  have D_law_shape : DefOk l.prog w K mg base 3 "_law_shape" _ _ [[]] := ⟨_, _, PySem.W.mg_of X G a_24, k_24, Qec (n := 2) F_24 T (D_law_walk.mono (by decide)), one b0_24⟩
  have M_waiting : MethOk l.prog w K mg base CHouse 2 "waiting" _ _ [[]] := ⟨_, _, ⟨a_7, i_7, k_7⟩, Qcg (n := 1) F_7 T (M_check_guard.mono (by decide)), one b0_7⟩
  have M_words : MethOk l.prog w K mg base CHouse 2 "words" _ _ [[]] := ⟨_, _, ⟨a_8, i_8, k_8⟩, QcV (n := 1) F_8 T (M_check_guard.mono (by decide)), one b0_8⟩
  have D_law_guards : DefOk l.prog w K mg base 3 "_law_guards" _ _ [[]] := ⟨_, _, PySem.W.mg_of X G a_19, k_19, QdC (n := 2) F_19 T (D_law_names.mono (by decide)) (M_waiting.mono (by decide)) (M_words.mono (by decide)), one b0_19⟩
  have D_law_same : DefOk l.prog w K mg base 2 "_law_same" _ _ [[]] := ⟨_, _, PySem.W.mg_of X G a_39, k_39, QeO (n := 1) F_39 T (D_law_whole.mono (by decide)), one b0_39⟩
  have M_held : MethOk l.prog w K mg base CHouse 2 "held" _ _ [[]] := ⟨_, _, ⟨a_22, i_22, k_22⟩, Qdz (n := 1) F_22 T (M_check_slot.mono (by decide)), one b0_22⟩
  have D_law_as_a : DefOk l.prog w K mg base 3 "_law_as" _ _ [[]] := ⟨_, _, PySem.W.mg_of X G a_45, k_45, QeS (n := 2) F_45 T (D_law_names.mono (by decide)) (M_names_a.mono (by decide)) (D_law_whole.mono (by decide)) (M_size.mono (by decide)) (M_kind.mono (by decide)) (D_law_same.mono (by decide)) (M_field.mono (by decide)) (M_held.mono (by decide)), one b0_45⟩
  exact QiK (n := 7) F_48 T (D_law_many.mono (by decide)) (D_law_graph.mono (by decide)) (D_law_slots.mono (by decide)) (D_law_house.mono (by decide)) (D_law_waits.mono (by decide)) (D_law_watched.mono (by decide)) (D_law_draw.mono (by decide)) (D_law_walk.mono (by decide)) (D_doubled.mono (by decide)) (D_law_whole.mono (by decide)) (D_law_read.mono (by decide)) (D_law_names.mono (by decide)) (M_names_a.mono (by decide)) (D_law_shape.mono (by decide)) (D_law_guards.mono (by decide)) (D_law_as_a.mono (by decide)) (M_put.mono (by decide))
theorem walk {l : PySem.W.OpenLaw} {q : Program} {loose : List Str} {XP : (Str → Option Value) → Heap → Prop} {YP : World → Heap → Prop} {d : DefRec} {K : Params → PySem.W.Frag} (hn : l.most = some 63) (hdf : d.params.defaults = [])
    (hY : ∀ (w : World) (h : Heap), YP w h → (K w.params).In h)
    (F : ∀ (w : World) (mg : Str → Option Value) (fa : Addr) (h : Heap), (K w.params).In h → h.Ns mainGlobals mg → mg d.name = some (.ref fa) →
      ∃ fd : FuncData, (∀ (s : Shared) (u : Value), BindsTo s fd ⟨[u], []⟩ [("script", u)]) ∧ ∀ base : Heap, (K w.params).In base → base.Ns mainGlobals mg → FnOk l.prog w (K w.params) mg base CX0 8 fa fd ["script"] (QiE (K w.params))) :
    PySem.W.WalkO q loose XP YP l.row.toRowW d [] (fun f vs => PySem.call f vs) :=
  L2.walk_of (n := 63) (k := 8) (x := "script") (CX := fun _ => CX0) (sp := fun w => QiE (K w.params)) hn (by decide) hdf ⟨rfl, by decide, by decide⟩ hY F (fun _ _ a ns hl hO hS => ⟨a, ns, rfl, Scr.of hO hS, hl, fun _ => rfl⟩) fun _ _ _ _ _ z => z
end LW
open PySem PySem.W PyProof.Rows
set_option maxRecDepth 100000 in
set_option maxHeartbeats 0 in
theorem PySem.Challenge.cw_lastword_k18_whole_copies_holds : PySem.Challenge.rw_lastword_k18_whole_copies.Holds := by
  w_on; o_law; k_head; (case hw => w_witness2)
  k_fill
  refine LW.walk (l := PySem.Challenge.rw_lastword_k18_whole_copies) rfl rfl (fun w h Y => PySem.W.kIn_of Y) ?F
  case F =>
    intro w mg fa h KX G hmg
    refine' LW.all_mk KX G hmg ?aCHouse ?a_13 ?l_13 ?c_13 ?k_13 ?a_36 ?l_36 ?c_36 ?k_36 ?a_40 ?l_40 ?c_40 ?k_40 ?a_20 ?l_20 ?c_20 ?k_20 ?a_33 ?l_33 ?c_33 ?k_33 ?a_27 ?l_27 ?c_27 ?k_27 ?a_32 ?l_32 ?c_32 ?k_32 ?a_23 ?i_23 ?l_23 ?c_23 ?k_23 ?t_23 ?a_3 ?i_3 ?l_3 ?c_3 ?k_3 ?a_6 ?i_6 ?l_6 ?c_6 ?k_6 ?a_5 ?i_5 ?l_5 ?c_5 ?k_5 ?t_5 ?a_38 ?l_38 ?c_38 ?k_38 ?a_31 ?l_31 ?c_31 ?k_31 ?a_43 ?l_43 ?c_43 ?k_43 ?a_9 ?i_9 ?l_9 ?c_9 ?k_9 ?a_15 ?i_15 ?l_15 ?c_15 ?k_15 ?t_15 ?a_4 ?i_4 ?l_4 ?c_4 ?k_4 ?a_0 ?i_0 ?l_0 ?c_0 ?k_0 ?a_1 ?i_1 ?l_1 ?c_1 ?k_1 ?a_25 ?i_25 ?l_25 ?c_25 ?k_25 ?a_17 ?i_17 ?l_17 ?c_17 ?k_17 ?a_26 ?l_26 ?c_26 ?k_26 ?a_34 ?l_34 ?c_34 ?k_34 ?a_2 ?i_2 ?l_2 ?c_2 ?k_2 ?a_12 ?i_12 ?l_12 ?c_12 ?k_12 ?a_11 ?l_11 ?c_11 ?k_11 ?a_28 ?l_28 ?c_28 ?k_28 ?a_41 ?l_41 ?c_41 ?k_41 ?a_21 ?i_21 ?l_21 ?c_21 ?k_21 ?a_10 ?i_10 ?l_10 ?c_10 ?k_10 ?a_30 ?l_30 ?c_30 ?k_30 ?a_42 ?l_42 ?c_42 ?k_42 ?a_47 ?l_47 ?c_47 ?k_47 ?a_18 ?i_18 ?l_18 ?c_18 ?k_18 ?a_46 ?l_46 ?c_46 ?k_46 ?a_16 ?l_16 ?c_16 ?k_16 ?a_44 ?l_44 ?c_44 ?k_44 ?t_44 ?a_35 ?l_35 ?c_35 ?k_35 ?a_14 ?i_14 ?l_14 ?c_14 ?k_14 ?a_37 ?l_37 ?c_37 ?k_37 ?a_29 ?l_29 ?c_29 ?k_29 ?a_24 ?l_24 ?c_24 ?k_24 ?a_7 ?i_7 ?l_7 ?c_7 ?k_7 ?a_8 ?i_8 ?l_8 ?c_8 ?k_8 ?a_19 ?l_19 ?c_19 ?k_19 ?a_39 ?l_39 ?c_39 ?k_39 ?a_22 ?i_22 ?l_22 ?c_22 ?k_22 ?a_45 ?l_45 ?c_45 ?k_45 ?a_48 ?l_48 ?c_48 ?k_48 ?pgHouse ?hdHouse ?poHouse ?saHouse ?mkHouse ?kcHouse ?n_House_room ?n_House_slots ?n_House_last_name ?n_House_kinds ?n_House_fields ?n_House_queues ?n_House_told ?z_len ?z_sorted ?z_range ?z_list ?z_isinstance ?z_int ?z_bool ?z_tuple ?z_str ?z_enumerate ?z_zip ?z_dict ?xg ?xf ?lf ?h_1 ?h_2 ?h_3
    case aCHouse | a_13 | l_13 | c_13 | k_13 | a_36 | l_36 | c_36 | k_36 | a_40 | l_40 | c_40 | k_40 | a_20 | l_20 | c_20 | k_20 | a_33 | l_33 | c_33 | k_33 | a_27 | l_27 | c_27 | k_27 | a_32 | l_32 | c_32 | k_32 | a_23 | i_23 | l_23 | c_23 | k_23 | t_23 | a_3 | i_3 | l_3 | c_3 | k_3 | a_6 | i_6 | l_6 | c_6 | k_6 | a_5 | i_5 | l_5 | c_5 | k_5 | t_5 | a_38 | l_38 | c_38 | k_38 | a_31 | l_31 | c_31 | k_31 | a_43 | l_43 | c_43 | k_43 | a_9 | i_9 | l_9 | c_9 | k_9 | a_15 | i_15 | l_15 | c_15 | k_15 | t_15 | a_4 | i_4 | l_4 | c_4 | k_4 | a_0 | i_0 | l_0 | c_0 | k_0 | a_1 | i_1 | l_1 | c_1 | k_1 | a_25 | i_25 | l_25 | c_25 | k_25 | a_17 | i_17 | l_17 | c_17 | k_17 | a_26 | l_26 | c_26 | k_26 | a_34 | l_34 | c_34 | k_34 | a_2 | i_2 | l_2 | c_2 | k_2 | a_12 | i_12 | l_12 | c_12 | k_12 | a_11 | l_11 | c_11 | k_11 | a_28 | l_28 | c_28 | k_28 | a_41 | l_41 | c_41 | k_41 | a_21 | i_21 | l_21 | c_21 | k_21 | a_10 | i_10 | l_10 | c_10 | k_10 | a_30 | l_30 | c_30 | k_30 | a_42 | l_42 | c_42 | k_42 | a_47 | l_47 | c_47 | k_47 | a_18 | i_18 | l_18 | c_18 | k_18 | a_46 | l_46 | c_46 | k_46 | a_16 | l_16 | c_16 | k_16 | a_44 | l_44 | c_44 | k_44 | t_44 | a_35 | l_35 | c_35 | k_35 | a_14 | i_14 | l_14 | c_14 | k_14 | a_37 | l_37 | c_37 | k_37 | a_29 | l_29 | c_29 | k_29 | a_24 | l_24 | c_24 | k_24 | a_7 | i_7 | l_7 | c_7 | k_7 | a_8 | i_8 | l_8 | c_8 | k_8 | a_19 | l_19 | c_19 | k_19 | a_39 | l_39 | c_39 | k_39 | a_22 | i_22 | l_22 | c_22 | k_22 | a_45 | l_45 | c_45 | k_45 | a_48 | l_48 | c_48 | k_48 | pgHouse | hdHouse | poHouse | saHouse | mkHouse | kcHouse | n_House_room | n_House_slots | n_House_last_name | n_House_kinds | n_House_fields | n_House_queues | n_House_told | z_len | z_sorted | z_range | z_list | z_isinstance | z_int | z_bool | z_tuple | z_str | z_enumerate | z_zip | z_dict | xg | xf | lf => k_is
    case h_1 | h_2 | h_3 => rfl
#print axioms PySem.Challenge.cw_lastword_k18_whole_copies_holds

